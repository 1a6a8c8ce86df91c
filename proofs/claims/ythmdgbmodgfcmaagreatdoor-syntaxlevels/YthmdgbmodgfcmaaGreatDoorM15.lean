/-
  SAnoInt, SAnoDecl.
-/
import Derived.Deep.RegionWith
import Derived.Test.YthmdgbmodgfcmaaGreatDoorM12
/-
  What another of Int does: one element more, read by what is handed in.
-/
namespace Go.Proofs.YthmdgbmodgfcmaaGreatDoor
open Go.RowKit

set_option maxHeartbeats 2000000 in
theorem anotherInt_any (E : Env) (K : FuncId) (els : List (List D)) (i : Nat) (r : Res) (hone : Reads E K (zero .int) i r) (hent : Entered K) (hlen : els.length ≤ 1000000)
    (w : World) (F : Nat → Prop) (b : Nat) (t : TypeId) (N o : Nat) (hr : Rd E w i) (ha : At ty w F b t N o [.row .int els]) (hb : ¬ E.own b) (hF : ∀ x, F x → ¬ E.own x) :
    Calls Tryz.prog 158 #[.pointer (some ⟨b, o, none⟩), .func (.func K) #[.pointer (some ⟨E.rb, 0, none⟩)] #[]] w
      (Post E F b t N o 1 w (bnd r fun e j => .ok ([.row .int (els ++ [e])], j))) := by
  obtain ⟨v, hv, hdv⟩ := ha.cell 0 _ rfl
  obtain ⟨xs, Fe, hown, hblk, hFe, hsz, hold⟩ := hdv.owns
  obtain ⟨info, z, hi, hz, hzc, hsize, hby⟩ := info_of .int
  simp only [Nat.add_zero] at hv
  have fo := ha.free o
  have hblt := ha.blt
  have HG : Hid (∀ g cap w1, w1.ownsRow 0 (ty.id .int) (ty.size .int) (.slice (some ⟨g, 0, none⟩) (els.length + 1) cap) (els.length + 1) (xs ++ (zero .int).map zval) → w.grownBy w1 v.ownBlock → (v.ownBlock = some g ∨ g = w.heap.size) →
      Grew E w F b t N o .int els i (w1.setCell ⟨b, o, none⟩ (.slice (some ⟨g, 0, none⟩) (els.length + 1) cap)) g cap Fe ∧ w1.cell? ⟨b, o, none⟩ = some v ∧ w1.frozen? ⟨b, o, none⟩ = false) := fun g cap w1 h1 h2 h3 =>
    ⟨grew hr ha hb hF hblk hFe hsz hown.1 hold h1 h2 h3, h2.cell hv (fun e => ha.nb (hblk b e.symm).1), by rw [World.frozen?_of_block (h2.block b hblt (fun e => ha.nb (hblk b e.symm).1))]; exact fo⟩
  have HO : Hid (w.ownsRow 0 (ty.id .int) info.size v els.length xs) := by rw [hsize]; exact hown
  have HL : Hid (els.length ≤ 1000000) := hlen
  have HE : Hid (Entered K) := hent
  have HI : Hid (Tryz.prog.info? (ty.id .int) = some info ∧ info.zero = some z ∧ z.cells.toList = (zero .int).map zval ∧ info.size = ty.size .int ∧ info.bytes ≤ 65536) := ⟨hi, hz, hzc, hsize, hby⟩
  have HR : Hid (Reads E K (zero .int) i r) := hone
  clear hone hlen hent hdv hown hblk hFe hsz hold hi hz hzc hsize hby hr ha hF hb
  go_enter Tryz.func158, Tryz.ntmps158
  go_wp2_with (at_builtin; refine wpList_append_zero rfl _ _ _ _ rfl (ty.id .int) info z .i64 Tryz.underlying46 Tryz.underlying3 HI.out.1 HI.out.2.1 (by rw [← Array.length_toList, HI.out.2.2.1, List.length_map, zero_size, HI.out.2.2.2.1]) (by rw [HI.out.2.2.2.1]; exact size_pos _) (by rw [HI.out.2.2.1]; exact zval_one _) HI.out.2.2.2.2 v els.length xs rfl rfl HO.out (by have := HL.out; omega) ?_; intro g cap w1 hown hgrow hat hg; rw [HI.out.2.2.2.1, HI.out.2.2.1] at hown; obtain ⟨HGr, c1, f1⟩ := HG.out g cap w1 hown hgrow hat)
  have c2 := HGr.cell
  have HGR : Hid (Grew E w F b t N o .int els i (w1.setCell ⟨b, o, none⟩ (.slice (some ⟨g, 0, none⟩) (els.length + 1) cap)) g cap Fe) := HGr
  have hcap := HGr.hn
  generalize w1.setCell ⟨b, o, none⟩ (.slice (some ⟨g, 0, none⟩) (els.length + 1) cap) = w2 at *
  obtain ⟨n, hn⟩ : ∃ n : Nat, els.length = n := ⟨_, rfl⟩
  obtain ⟨m, hm⟩ : ∃ m : Nat, els.length + 1 = m := ⟨_, rfl⟩
  rw [hm] at c2
  have hle : (m : Int) ≤ 1000001 := by have := HL.out; omega
  have hsub : (m : Int) - 1 = (n : Int) := by omega
  have hlt : (n : Int) < (m : Int) := by omega
  have HN : Hid (els.length = n) := hn
  clear HG HO HI hown hgrow hat hg c1 f1 HGr hv fo hn hm hcap
  have hwr : IntKind.i64.wrap (n : Int) = (n : Int) := wrap_small (by omega) (by omega)
  have HC : Hid (∀ W, (∃ q, W = w2.drewN q) → Calls Tryz.prog K #[.pointer (some ⟨E.rb, 0, none⟩), .pointer (some ⟨g, n, none⟩)] W (Post E F b t N o 1 w (bnd r fun e j => .ok ([.row .int (els ++ [e])], j)))) := by
    rintro W ⟨q, rfl⟩
    have hG := HGR.out.same (mvd1 (fun _ => False) w2 q)
    have h1 := HR.out (w2.drewN q) (fun _ => False) g (ty.id .int) (cap * ty.size .int) (els.length * ty.size .int) hG.rd hG.new hG.own (fun _ h => h.elim)
    rw [zero_size] at h1
    have e1 : els.length * ty.size .int = n := by show els.length * 1 = n; rw [HN.out, Nat.mul_one]
    rw [e1] at h1
    refine h1.mono ?_
    intro e w3 hp
    rw [← e1] at hp
    cases r with
    | error m => exact hG.bad hp
    | ok x => obtain ⟨ds, j⟩ := x; exact hG.done hp
  clear HGR HR HL HN
  refine wp_region_any (by kernel_rfl) ?_
  change wpAny _ _ _ _ _ _ _ (World.drew _)
  refine wpAny_take (i := 0) (v := ?_) rfl (by kernel_rfl) (by kernel_rfl) (by kernel_rfl) (fun _ _ _ h => h) (Or.inl ⟨by rfl, fun w => by rfl⟩) ?_
  refine wpAny_take (i := 1) (v := ?_) rfl (by kernel_rfl) (by kernel_rfl) (by kernel_rfl) (fun _ _ _ h => h) (Or.inl ⟨by rfl, fun w => by rfl⟩) ?_
  refine wpAny_take (i := 2) (v := ?_) rfl (by kernel_rfl) (by kernel_rfl) (by kernel_rfl) (fun _ _ _ h => h) (Or.inl ⟨by rfl, fun w => by rfl⟩) ?_
  refine wpAny_take (i := 4) (v := ?_) rfl (by kernel_rfl) (by kernel_rfl) (by kernel_rfl) (fun _ _ _ h => h) (Or.inl ⟨by rfl, fun w => by rfl⟩) ?_
  refine wpAny_take (i := 5) (v := ?_) rfl (by kernel_rfl) (by kernel_rfl) (by kernel_rfl) (fun _ _ _ h => h) (Or.inl ⟨by rfl, fun w => by rfl⟩) ?_
  try simp only [Act.put, List.getElem_toArray, List.getElem_cons_zero, List.getElem_cons_succ, List.setIfInBounds_toArray, List.set_cons_zero, List.set_cons_succ]
  refine wpAny_ready (rs := [3, 6]) (by kernel_rfl) (by simp) ?_
  refine AllReady.cons rfl (fun K' hK => ?_) (AllReady.cons rfl (fun K' hK => ?_) AllReady.nil)
  · go_simp
    refine hK _ _ ?_
    clear hK K'
    try simp only [Act.put, List.getElem_toArray, List.getElem_cons_zero, List.getElem_cons_succ, List.setIfInBounds_toArray, List.set_cons_zero, List.set_cons_succ]
    refine wpAny_ready (rs := [6]) (by kernel_rfl) (by simp) ?_
    refine AllReady.cons rfl (fun K' hK => ?_) AllReady.nil
    go_simp
    refine hK _ _ ?_
    clear hK K'
    try simp only [Act.put, List.getElem_toArray, List.getElem_cons_zero, List.getElem_cons_succ, List.setIfInBounds_toArray, List.set_cons_zero, List.set_cons_succ]
    refine wpAny_take (i := 7) (v := .int .i64 (m : Int)) rfl (by kernel_rfl) (by kernel_rfl) (by kernel_rfl) (fun _ _ _ h => h) (Or.inl ⟨by rfl, fun w => by go_simp⟩) ?_
    try simp only [Act.put, List.getElem_toArray, List.getElem_cons_zero, List.getElem_cons_succ, List.setIfInBounds_toArray, List.set_cons_zero, List.set_cons_succ]
    refine wpAny_take (i := 8) (v := .int .i64 (n : Int)) rfl (by kernel_rfl) (by kernel_rfl) (by kernel_rfl) (fun _ _ _ h => h) (Or.inl ⟨by rfl, fun w => by go_simp⟩) ?_
    try simp only [Act.put, List.getElem_toArray, List.getElem_cons_zero, List.getElem_cons_succ, List.setIfInBounds_toArray, List.set_cons_zero, List.set_cons_succ]
    refine wpAny_take (i := 9) (v := .pointer (some ⟨g, n, none⟩)) rfl (by kernel_rfl) (by kernel_rfl) (by kernel_rfl) (fun _ _ _ h => h) (Or.inl ⟨by rfl, fun w => by go_simp⟩) ?_
    try simp only [Act.put, List.getElem_toArray, List.getElem_cons_zero, List.getElem_cons_succ, List.setIfInBounds_toArray, List.set_cons_zero, List.set_cons_succ]
    refine wpAny_ready (rs := [10]) (by kernel_rfl) (by simp) ?_
    refine AllReady.cons rfl (fun K' hK => ?_) AllReady.nil
    go_simp
    rw [HE.out]
    rw [Oper.upon_enter]
    refine (HC.out _ ⟨1, rfl⟩).mono ?_
    intro e w3 hp
    rcases hp.ends with rfl | ⟨mi, rfl⟩
    · refine hK _ _ (wpAny_done (by kernel_rfl) ?_ _)
      exact bodyPost_end (results_none rfl _ _ _) rfl hp
    · exact ⟨rfl, hp⟩
  · go_simp
    refine hK _ _ ?_
    clear hK K'
    try simp only [Act.put, List.getElem_toArray, List.getElem_cons_zero, List.getElem_cons_succ, List.setIfInBounds_toArray, List.set_cons_zero, List.set_cons_succ]
    refine wpAny_take (i := 7) (v := .int .i64 (m : Int)) rfl (by kernel_rfl) (by kernel_rfl) (by kernel_rfl) (fun _ _ _ h => h) (Or.inl ⟨by rfl, fun w => by go_simp⟩) ?_
    try simp only [Act.put, List.getElem_toArray, List.getElem_cons_zero, List.getElem_cons_succ, List.setIfInBounds_toArray, List.set_cons_zero, List.set_cons_succ]
    refine wpAny_take (i := 8) (v := .int .i64 (n : Int)) rfl (by kernel_rfl) (by kernel_rfl) (by kernel_rfl) (fun _ _ _ h => h) (Or.inl ⟨by rfl, fun w => by go_simp⟩) ?_
    try simp only [Act.put, List.getElem_toArray, List.getElem_cons_zero, List.getElem_cons_succ, List.setIfInBounds_toArray, List.set_cons_zero, List.set_cons_succ]
    refine wpAny_ready (rs := [3]) (by kernel_rfl) (by simp) ?_
    refine AllReady.cons rfl (fun K' hK => ?_) AllReady.nil
    go_simp
    refine hK _ _ ?_
    clear hK K'
    try simp only [Act.put, List.getElem_toArray, List.getElem_cons_zero, List.getElem_cons_succ, List.setIfInBounds_toArray, List.set_cons_zero, List.set_cons_succ]
    refine wpAny_take (i := 9) (v := .pointer (some ⟨g, n, none⟩)) rfl (by kernel_rfl) (by kernel_rfl) (by kernel_rfl) (fun _ _ _ h => h) (Or.inl ⟨by rfl, fun w => by go_simp⟩) ?_
    try simp only [Act.put, List.getElem_toArray, List.getElem_cons_zero, List.getElem_cons_succ, List.setIfInBounds_toArray, List.set_cons_zero, List.set_cons_succ]
    refine wpAny_ready (rs := [10]) (by kernel_rfl) (by simp) ?_
    refine AllReady.cons rfl (fun K' hK => ?_) AllReady.nil
    go_simp
    rw [HE.out]
    rw [Oper.upon_enter]
    refine (HC.out _ ⟨1, rfl⟩).mono ?_
    intro e w3 hp
    rcases hp.ends with rfl | ⟨mi, rfl⟩
    · refine hK _ _ (wpAny_done (by kernel_rfl) ?_ _)
      exact bodyPost_end (results_none rfl _ _ _) rfl hp
    · exact ⟨rfl, hp⟩

end Go.Proofs.YthmdgbmodgfcmaaGreatDoor
/-
  What another of Decl does: one element more, read by what is handed in.
-/
namespace Go.Proofs.YthmdgbmodgfcmaaGreatDoor
open Go.RowKit

set_option maxHeartbeats 2000000 in
theorem anotherDecl_any (E : Env) (K : FuncId) (els : List (List D)) (i : Nat) (r : Res) (hone : Reads E K (zero .decl) i r) (hent : Entered K) (hlen : els.length ≤ 1000000)
    (w : World) (F : Nat → Prop) (b : Nat) (t : TypeId) (N o : Nat) (hr : Rd E w i) (ha : At ty w F b t N o [.row .decl els]) (hb : ¬ E.own b) (hF : ∀ x, F x → ¬ E.own x) :
    Calls Tryz.prog 104 #[.pointer (some ⟨b, o, none⟩), .func (.func K) #[.pointer (some ⟨E.rb, 0, none⟩)] #[]] w
      (Post E F b t N o 1 w (bnd r fun e j => .ok ([.row .decl (els ++ [e])], j))) := by
  obtain ⟨v, hv, hdv⟩ := ha.cell 0 _ rfl
  obtain ⟨xs, Fe, hown, hblk, hFe, hsz, hold⟩ := hdv.owns
  obtain ⟨info, z, hi, hz, hzc, hsize, hby⟩ := info_of .decl
  simp only [Nat.add_zero] at hv
  have fo := ha.free o
  have hblt := ha.blt
  have HG : Hid (∀ g cap w1, w1.ownsRow 0 (ty.id .decl) (ty.size .decl) (.slice (some ⟨g, 0, none⟩) (els.length + 1) cap) (els.length + 1) (xs ++ (zero .decl).map zval) → w.grownBy w1 v.ownBlock → (v.ownBlock = some g ∨ g = w.heap.size) →
      Grew E w F b t N o .decl els i (w1.setCell ⟨b, o, none⟩ (.slice (some ⟨g, 0, none⟩) (els.length + 1) cap)) g cap Fe ∧ w1.cell? ⟨b, o, none⟩ = some v ∧ w1.frozen? ⟨b, o, none⟩ = false) := fun g cap w1 h1 h2 h3 =>
    ⟨grew hr ha hb hF hblk hFe hsz hown.1 hold h1 h2 h3, h2.cell hv (fun e => ha.nb (hblk b e.symm).1), by rw [World.frozen?_of_block (h2.block b hblt (fun e => ha.nb (hblk b e.symm).1))]; exact fo⟩
  have HO : Hid (w.ownsRow 0 (ty.id .decl) info.size v els.length xs) := by rw [hsize]; exact hown
  have HL : Hid (els.length ≤ 1000000) := hlen
  have HE : Hid (Entered K) := hent
  have HI : Hid (Tryz.prog.info? (ty.id .decl) = some info ∧ info.zero = some z ∧ z.cells.toList = (zero .decl).map zval ∧ info.size = ty.size .decl ∧ info.bytes ≤ 65536) := ⟨hi, hz, hzc, hsize, hby⟩
  have HR : Hid (Reads E K (zero .decl) i r) := hone
  clear hone hlen hent hdv hown hblk hFe hsz hold hi hz hzc hsize hby hr ha hF hb
  go_enter Tryz.func104, Tryz.ntmps104
  go_wp2_with (at_builtin; refine wpList_append_zero rfl _ _ _ _ rfl (ty.id .decl) info z .i64 Tryz.underlying52 Tryz.underlying3 HI.out.1 HI.out.2.1 (by rw [← Array.length_toList, HI.out.2.2.1, List.length_map, zero_size, HI.out.2.2.2.1]) (by rw [HI.out.2.2.2.1]; exact size_pos _) (by rw [HI.out.2.2.1]; exact zval_one _) HI.out.2.2.2.2 v els.length xs rfl rfl HO.out (by have := HL.out; omega) ?_; intro g cap w1 hown hgrow hat hg; rw [HI.out.2.2.2.1, HI.out.2.2.1] at hown; obtain ⟨HGr, c1, f1⟩ := HG.out g cap w1 hown hgrow hat)
  have c2 := HGr.cell
  have HGR : Hid (Grew E w F b t N o .decl els i (w1.setCell ⟨b, o, none⟩ (.slice (some ⟨g, 0, none⟩) (els.length + 1) cap)) g cap Fe) := HGr
  have hcap := HGr.hn
  generalize w1.setCell ⟨b, o, none⟩ (.slice (some ⟨g, 0, none⟩) (els.length + 1) cap) = w2 at *
  obtain ⟨n, hn⟩ : ∃ n : Nat, els.length = n := ⟨_, rfl⟩
  obtain ⟨m, hm⟩ : ∃ m : Nat, els.length + 1 = m := ⟨_, rfl⟩
  rw [hm] at c2
  have hle : (m : Int) ≤ 1000001 := by have := HL.out; omega
  have hsub : (m : Int) - 1 = (n : Int) := by omega
  have hlt : (n : Int) < (m : Int) := by omega
  have HN : Hid (els.length = n) := hn
  clear HG HO HI hown hgrow hat hg c1 f1 HGr hv fo hn hm hcap
  have hwr : IntKind.i64.wrap (n : Int) = (n : Int) := wrap_small (by omega) (by omega)
  have HC : Hid (∀ W, (∃ q, W = w2.drewN q) → Calls Tryz.prog K #[.pointer (some ⟨E.rb, 0, none⟩), .pointer (some ⟨g, n * 4, none⟩)] W (Post E F b t N o 1 w (bnd r fun e j => .ok ([.row .decl (els ++ [e])], j)))) := by
    rintro W ⟨q, rfl⟩
    have hG := HGR.out.same (mvd1 (fun _ => False) w2 q)
    have h1 := HR.out (w2.drewN q) (fun _ => False) g (ty.id .decl) (cap * ty.size .decl) (els.length * ty.size .decl) hG.rd hG.new hG.own (fun _ h => h.elim)
    rw [zero_size] at h1
    have e1 : els.length * ty.size .decl = n * 4 := by show els.length * 4 = n * 4; rw [HN.out]
    rw [e1] at h1
    refine h1.mono ?_
    intro e w3 hp
    rw [← e1] at hp
    cases r with
    | error m => exact hG.bad hp
    | ok x => obtain ⟨ds, j⟩ := x; exact hG.done hp
  clear HGR HR HL HN
  refine wp_region_any (by kernel_rfl) ?_
  change wpAny _ _ _ _ _ _ _ (World.drew _)
  refine wpAny_take (i := 0) (v := ?_) rfl (by kernel_rfl) (by kernel_rfl) (by kernel_rfl) (fun _ _ _ h => h) (Or.inl ⟨by rfl, fun w => by rfl⟩) ?_
  refine wpAny_take (i := 1) (v := ?_) rfl (by kernel_rfl) (by kernel_rfl) (by kernel_rfl) (fun _ _ _ h => h) (Or.inl ⟨by rfl, fun w => by rfl⟩) ?_
  refine wpAny_take (i := 2) (v := ?_) rfl (by kernel_rfl) (by kernel_rfl) (by kernel_rfl) (fun _ _ _ h => h) (Or.inl ⟨by rfl, fun w => by rfl⟩) ?_
  refine wpAny_take (i := 4) (v := ?_) rfl (by kernel_rfl) (by kernel_rfl) (by kernel_rfl) (fun _ _ _ h => h) (Or.inl ⟨by rfl, fun w => by rfl⟩) ?_
  refine wpAny_take (i := 5) (v := ?_) rfl (by kernel_rfl) (by kernel_rfl) (by kernel_rfl) (fun _ _ _ h => h) (Or.inl ⟨by rfl, fun w => by rfl⟩) ?_
  try simp only [Act.put, List.getElem_toArray, List.getElem_cons_zero, List.getElem_cons_succ, List.setIfInBounds_toArray, List.set_cons_zero, List.set_cons_succ]
  refine wpAny_ready (rs := [3, 6]) (by kernel_rfl) (by simp) ?_
  refine AllReady.cons rfl (fun K' hK => ?_) (AllReady.cons rfl (fun K' hK => ?_) AllReady.nil)
  · go_simp
    refine hK _ _ ?_
    clear hK K'
    try simp only [Act.put, List.getElem_toArray, List.getElem_cons_zero, List.getElem_cons_succ, List.setIfInBounds_toArray, List.set_cons_zero, List.set_cons_succ]
    refine wpAny_ready (rs := [6]) (by kernel_rfl) (by simp) ?_
    refine AllReady.cons rfl (fun K' hK => ?_) AllReady.nil
    go_simp
    refine hK _ _ ?_
    clear hK K'
    try simp only [Act.put, List.getElem_toArray, List.getElem_cons_zero, List.getElem_cons_succ, List.setIfInBounds_toArray, List.set_cons_zero, List.set_cons_succ]
    refine wpAny_take (i := 7) (v := .int .i64 (m : Int)) rfl (by kernel_rfl) (by kernel_rfl) (by kernel_rfl) (fun _ _ _ h => h) (Or.inl ⟨by rfl, fun w => by go_simp⟩) ?_
    try simp only [Act.put, List.getElem_toArray, List.getElem_cons_zero, List.getElem_cons_succ, List.setIfInBounds_toArray, List.set_cons_zero, List.set_cons_succ]
    refine wpAny_take (i := 8) (v := .int .i64 (n : Int)) rfl (by kernel_rfl) (by kernel_rfl) (by kernel_rfl) (fun _ _ _ h => h) (Or.inl ⟨by rfl, fun w => by go_simp⟩) ?_
    try simp only [Act.put, List.getElem_toArray, List.getElem_cons_zero, List.getElem_cons_succ, List.setIfInBounds_toArray, List.set_cons_zero, List.set_cons_succ]
    refine wpAny_take (i := 9) (v := .pointer (some ⟨g, n * 4, none⟩)) rfl (by kernel_rfl) (by kernel_rfl) (by kernel_rfl) (fun _ _ _ h => h) (Or.inl ⟨by rfl, fun w => by go_simp⟩) ?_
    try simp only [Act.put, List.getElem_toArray, List.getElem_cons_zero, List.getElem_cons_succ, List.setIfInBounds_toArray, List.set_cons_zero, List.set_cons_succ]
    refine wpAny_ready (rs := [10]) (by kernel_rfl) (by simp) ?_
    refine AllReady.cons rfl (fun K' hK => ?_) AllReady.nil
    go_simp
    rw [HE.out]
    rw [Oper.upon_enter]
    refine (HC.out _ ⟨1, rfl⟩).mono ?_
    intro e w3 hp
    rcases hp.ends with rfl | ⟨mi, rfl⟩
    · refine hK _ _ (wpAny_done (by kernel_rfl) ?_ _)
      exact bodyPost_end (results_none rfl _ _ _) rfl hp
    · exact ⟨rfl, hp⟩
  · go_simp
    refine hK _ _ ?_
    clear hK K'
    try simp only [Act.put, List.getElem_toArray, List.getElem_cons_zero, List.getElem_cons_succ, List.setIfInBounds_toArray, List.set_cons_zero, List.set_cons_succ]
    refine wpAny_take (i := 7) (v := .int .i64 (m : Int)) rfl (by kernel_rfl) (by kernel_rfl) (by kernel_rfl) (fun _ _ _ h => h) (Or.inl ⟨by rfl, fun w => by go_simp⟩) ?_
    try simp only [Act.put, List.getElem_toArray, List.getElem_cons_zero, List.getElem_cons_succ, List.setIfInBounds_toArray, List.set_cons_zero, List.set_cons_succ]
    refine wpAny_take (i := 8) (v := .int .i64 (n : Int)) rfl (by kernel_rfl) (by kernel_rfl) (by kernel_rfl) (fun _ _ _ h => h) (Or.inl ⟨by rfl, fun w => by go_simp⟩) ?_
    try simp only [Act.put, List.getElem_toArray, List.getElem_cons_zero, List.getElem_cons_succ, List.setIfInBounds_toArray, List.set_cons_zero, List.set_cons_succ]
    refine wpAny_ready (rs := [3]) (by kernel_rfl) (by simp) ?_
    refine AllReady.cons rfl (fun K' hK => ?_) AllReady.nil
    go_simp
    refine hK _ _ ?_
    clear hK K'
    try simp only [Act.put, List.getElem_toArray, List.getElem_cons_zero, List.getElem_cons_succ, List.setIfInBounds_toArray, List.set_cons_zero, List.set_cons_succ]
    refine wpAny_take (i := 9) (v := .pointer (some ⟨g, n * 4, none⟩)) rfl (by kernel_rfl) (by kernel_rfl) (by kernel_rfl) (fun _ _ _ h => h) (Or.inl ⟨by rfl, fun w => by go_simp⟩) ?_
    try simp only [Act.put, List.getElem_toArray, List.getElem_cons_zero, List.getElem_cons_succ, List.setIfInBounds_toArray, List.set_cons_zero, List.set_cons_succ]
    refine wpAny_ready (rs := [10]) (by kernel_rfl) (by simp) ?_
    refine AllReady.cons rfl (fun K' hK => ?_) AllReady.nil
    go_simp
    rw [HE.out]
    rw [Oper.upon_enter]
    refine (HC.out _ ⟨1, rfl⟩).mono ?_
    intro e w3 hp
    rcases hp.ends with rfl | ⟨mi, rfl⟩
    · refine hK _ _ (wpAny_done (by kernel_rfl) ?_ _)
      exact bodyPost_end (results_none rfl _ _ _) rfl hp
    · exact ⟨rfl, hp⟩

end Go.Proofs.YthmdgbmodgfcmaaGreatDoor
