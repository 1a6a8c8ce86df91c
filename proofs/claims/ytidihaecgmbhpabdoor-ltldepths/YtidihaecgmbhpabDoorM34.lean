/-
  VNormAll, VNormal.
-/
import Derived.Test.YtidihaecgmbhpabDoorM10
import Derived.Test.YtidihaecgmbhpabDoorM22
import Derived.Test.YtidihaecgmbhpabDoorM23
import Derived.Test.YtidihaecgmbhpabDoorM24
import Derived.Test.YtidihaecgmbhpabDoorM25
import Derived.Test.YtidihaecgmbhpabDoorM27
import Derived.Test.YtidihaecgmbhpabDoorM29
/-
  What says and denies give, of all formulas; normal.
-/
set_option linter.unusedSimpArgs false
set_option linter.unusedVariables false
namespace Go.Proofs.YtidihaecgmbhpabDoor
open Go.RowKit Q

theorem norm_all (f : F) : f.ok = true → SaysP f ∧ DenP f := by
  induction f with
  | tt => exact fun _ => ⟨says_tt, denies_tt⟩
  | ff => exact fun _ => ⟨says_ff, denies_ff⟩
  | pr s =>
    intro h
    have := (isName_parts h).1
    exact ⟨says_pr (by omega), denies_pr (by omega)⟩
  | u o a ih =>
    intro h
    have iha := ih h
    cases o
    · exact ⟨says_not iha.2, denies_not iha.1⟩
    · exact ⟨says_next iha.1, denies_next iha.2⟩
    · exact ⟨says_always iha.1, denies_always iha.2⟩
    · exact ⟨says_fin iha.1, denies_fin iha.2⟩
  | b o a c iha' ihc' =>
    intro h
    have h' : a.ok = true ∧ c.ok = true := by simpa [F.ok] using h
    have iha := iha' h'.1
    have ihc := ihc' h'.2
    cases o
    · exact ⟨says_and iha.1 ihc.1, denies_and iha.2 ihc.2⟩
    · exact ⟨says_or iha.1 ihc.1, denies_or iha.2 ihc.2⟩
    · exact ⟨says_imp iha.2 ihc.1, denies_imp iha.1 ihc.2⟩
    · exact ⟨says_iff iha.1 iha.2 ihc.1 ihc.2, denies_iff iha.1 iha.2 ihc.1 ihc.2⟩
    · exact ⟨says_til iha.1 ihc.1, denies_til iha.2 ihc.2⟩
    · exact ⟨says_rel iha.1 ihc.1, denies_rel iha.2 ihc.2⟩
    · exact ⟨says_weak iha.1 ihc.1, denies_weak iha.2 ihc.2⟩

/-- What stands behind the attempt. -/
def NrR (ab sz : Nat) (f : F) : Option (Nat × Nat) → World → Prop
  | none, W => cnt true f ≤ 20000 ∧ ∃ d0 d1 d2, W.heap[ab]? = some (.cells #[d0, d1, d2] 24 (0, 0)) ∧ OwnP (fun x => sz < x) W (.agg #[d0, d1, d2]) (col true f).t
  | some x, _ => x = (2, 0) ∧ 20000 < cnt true f

theorem NrR.mv {ab sz : Nat} {f : F} (hab : ab ≠ sz) {r : Option (Nat × Nat)} {W W' : World} (h : NrR ab sz f r W) (hm : Mv (fun x => sz = x) W W') : NrR ab sz f r W' := by
  cases r with
  | some x => exact h
  | none =>
    obtain ⟨h0, d0, d1, d2, h1, h2⟩ := h
    exact ⟨h0, d0, d1, d2, hm.heap h1 (fun e => hab e.symm), h2.mv hm (fun x hx _ e => by omega)⟩

set_option maxHeartbeats 2000000 in
theorem normal1_any (f : F) (ho : f.ok = true) (w : World) (B sz nb cb ab pb po : Nat) (hB : B ≤ w.heap.size) (hsz : sz < w.heap.size) (hBa : B ≤ ab) (hne : ab ≠ nb) (hcn : cb ≠ nb) (hc : w.cell? ⟨cb, 0, none⟩ = some (.pointer (some ⟨pb, po, none⟩))) (h : NAt w B nb pb po f) (hn : NrIs w nb 20000) (ha : w.heap[ab]? = some (.cells #[.int .i64 0, .string ⟨#[]⟩, .slice none 0 0] 24 (0, 0))) :
    Does 33 #[.pointer (some ⟨nb, 0, none⟩), .pointer (some ⟨cb, 0, none⟩), .pointer (some ⟨ab, 0, none⟩)] w (fun x => x = nb ∨ x = ab) (NrR ab sz f) := by
  have HC := hid ((norm_all f ho).1 w B nb 20000 pb po hB h hn)
  have HA := hid ha
  have halt := lt_of_block ha
  clear h hn ha
  unfold Does
  go_enter Tryd.func33, Tryd.ntmps33
  go_wp2_with fail
  refine Calls.mono HC.out ?_
  rintro e w1 ⟨hm, ⟨h1, h2, v, rfl, h3⟩ | ⟨h1, rfl⟩⟩
  · obtain ⟨k, s, ao, l, c, rfl⟩ := h3.cells
    have hb := hm.heap HA.out hne
    have y0 : w1.cell? ⟨ab, 0, none⟩ = some (.int .i64 0) := by rw [cell_blk hb]; rfl
    have y1 : w1.cell? ⟨ab, 1, none⟩ = some (.string ⟨#[]⟩) := by rw [cell_blk hb]; rfl
    have y2 : w1.cell? ⟨ab, 2, none⟩ = some (.slice none 0 0) := by rw [cell_blk hb]; rfl
    have f0 := free_blk hb 0
    have f1 := free_blk hb 1
    have f2 := free_blk hb 2
    have hltb := lt_of_block hb
    have HB := hid hb
    have HM := hid hm
    have H3 := hid h3
    have H1 := hid h1
    clear hb hm h1 h2 h3 HC
    go_wp2_with fail
    have h3 := set3 HB.out (.int .i64 k) (.string s) (.slice ao l c)
    generalize hW7 : World.setCell _ _ _ = W7 at h3 ⊢
    refine bodyPost_end (results_none rfl _ _ _) rfl ?_
    refine ⟨(HM.out.mono (fun x hx => .inl (.inl hx))).trans h3.mv (fun x hx => .inl (.inr hx)), .inl ⟨rfl, H1.out, _, _, _, h3.blk, ?_⟩⟩
    exact (H3.out.mv h3.mv (fun x hx _ e => by omega)).mono (fun x hx => by omega)
  · exact ⟨rfl, hm.mono (fun x hx => .inl (.inl hx)), .inr ⟨2, 0, rfl, rfl, h1⟩⟩

end Go.Proofs.YtidihaecgmbhpabDoor
/-
  What the program's normal gives.
-/
set_option linter.unusedSimpArgs false
set_option linter.unusedVariables false
namespace Go.Proofs.YtidihaecgmbhpabDoor
open Go.RowKit Q

/-- The four blocks that normal makes. -/
structure NB (w W : World) (pb po : Nat) : Prop where
  nu : Nu w W
  b0 : W.heap[w.heap.size]? = some (.cells #[.pointer (some ⟨pb, po, none⟩)] 49 (0, 0))
  b1 : W.heap[w.heap.size + 1]? = some (.cells #[.int .i64 0, .string ⟨#[]⟩, .slice none 0 0] 24 (0, 0))
  b2 : W.heap[w.heap.size + 1 + 1]? = some (.cells #[.int .i64 20000] 67 (0, 0))
  b3 : W.heap[w.heap.size + 1 + 1 + 1]? = some (.cells #[.int .i64 0, .string ⟨#[]⟩, .slice none 0 0] 24 (0, 0))
  sz : W.heap.size = w.heap.size + 4

theorem NB.of (w : World) (pb po : Nat) : NB w ((((w.alloc (.cells #[.pointer (some ⟨pb, po, none⟩)] 49)).alloc (.cells #[.int .i64 0, .string ⟨#[]⟩, .slice none 0 0] 24)).alloc (.cells #[.int .i64 20000] 67)).alloc (.cells #[.int .i64 0, .string ⟨#[]⟩, .slice none 0 0] 24)) pb po := by
  obtain ⟨W1, hW1⟩ : ∃ W1, w.alloc (.cells #[.pointer (some ⟨pb, po, none⟩)] 49) = W1 := ⟨_, rfl⟩
  obtain ⟨W2, hW2⟩ : ∃ W2, W1.alloc (.cells #[.int .i64 0, .string ⟨#[]⟩, .slice none 0 0] 24) = W2 := ⟨_, rfl⟩
  obtain ⟨W3, hW3⟩ : ∃ W3, W2.alloc (.cells #[.int .i64 20000] 67) = W3 := ⟨_, rfl⟩
  obtain ⟨W4, hW4⟩ : ∃ W4, W3.alloc (.cells #[.int .i64 0, .string ⟨#[]⟩, .slice none 0 0] 24) = W4 := ⟨_, rfl⟩
  have s1 : W1.heap.size = w.heap.size + 1 := by rw [← hW1]; simp
  have s2 : W2.heap.size = w.heap.size + 1 + 1 := by rw [← hW2]; simp [s1]
  have s3 : W3.heap.size = w.heap.size + 1 + 1 + 1 := by rw [← hW3]; simp [s2]
  have s4 : W4.heap.size = w.heap.size + 4 := by rw [← hW4]; simp [s3]
  have m1 : Nu w W1 := by rw [← hW1]; exact Mv.alloc _ _ _
  have m2 : Nu W1 W2 := by rw [← hW2]; exact Mv.alloc _ _ _
  have m3 : Nu W2 W3 := by rw [← hW3]; exact Mv.alloc _ _ _
  have m4 : Nu W3 W4 := by rw [← hW4]; exact Mv.alloc _ _ _
  have b0 : W1.heap[w.heap.size]? = some (.cells #[.pointer (some ⟨pb, po, none⟩)] 49 (0, 0)) := by rw [← hW1]; exact heap_alloc_new w _
  have b1 : W2.heap[w.heap.size + 1]? = some (.cells #[.int .i64 0, .string ⟨#[]⟩, .slice none 0 0] 24 (0, 0)) := by rw [← hW2, ← s1]; exact heap_alloc_new W1 _
  have b2 : W3.heap[w.heap.size + 1 + 1]? = some (.cells #[.int .i64 20000] 67 (0, 0)) := by rw [← hW3, ← s2]; exact heap_alloc_new W2 _
  have b3 : W4.heap[w.heap.size + 1 + 1 + 1]? = some (.cells #[.int .i64 0, .string ⟨#[]⟩, .slice none 0 0] 24 (0, 0)) := by rw [← hW4, ← s3]; exact heap_alloc_new W3 _
  rw [hW1, hW2, hW3, hW4]
  exact ⟨mv0 m1 (mv0 m2 (mv0 m3 m4)), (mv0 m2 (mv0 m3 m4)).heap b0 id, (mv0 m3 m4).heap b1 id, m4.heap b2 id, b3, s4⟩

/-- What normal gives. -/
def nmE (f : F) : Nat := if 20000 < cnt true f then 2 else 0
def nmT (f : F) : T := if 20000 < cnt true f then .mk 0 [] [] else (col true f).t

theorem zeroT (B : Nat) (w : World) : OwnT B w (.agg #[.int .i64 0, .string ⟨#[]⟩, .slice none 0 0]) (.mk 0 [] []) := OwnT.leaf B w 0 [] (by decide) (by simp)

set_option maxHeartbeats 4000000 in
theorem normal_any (f : F) (ho : f.ok = true) (w : World) (pb po : Nat) (c0 c1 c2 : Value) (hp : pb < w.heap.size) (h0 : w.cell? ⟨pb, po, none⟩ = some c0) (h1 : w.cell? ⟨pb, po + 1, none⟩ = some c1) (h2 : w.cell? ⟨pb, po + 2, none⟩ = some c2) (h : TAt w c0 c1 c2 f.t) :
    Calls Tryd.prog 20 #[.pointer (some ⟨pb, po, none⟩)] w fun e w' => Nu w w' ∧ ∃ v, e = .returned (.tuple #[v, .int .i64 (nmE f : Int)]) ∧ OwnT w.heap.size w' v (nmT f) := by
  have hA : NAt w w.heap.size (w.heap.size + 1 + 1) pb po f := ⟨by omega, hp, c0, c1, c2, h0, h1, h2, h.mono (fun x _ hx => ⟨by omega, hx⟩)⟩
  have HA := hid hA
  have HNB := hid (NB.of w pb po)
  obtain ⟨O, hO⟩ : ∃ O : Ending → World → Prop, (fun e w' => Nu w w' ∧ ∃ v, e = .returned (.tuple #[v, .int .i64 (nmE f : Int)]) ∧ OwnT w.heap.size w' v (nmT f)) = O := ⟨_, rfl⟩
  rw [hO]
  have HO := hid hO
  clear hA h h0 h1 h2 hO
  go_enter Tryd.func20, Tryd.ntmps20
  go_upto_region 3 with fail
  have hnb := HNB.out
  clear HNB
  generalize hW : World.alloc _ _ = W at hnb ⊢
  clear hW
  have hsz := hnb.sz
  have HT := hid (attempt_normal #[.pointer (some ⟨w.heap.size + 1 + 1, 0, none⟩), .pointer (some ⟨w.heap.size, 0, none⟩), .pointer (some ⟨w.heap.size + 1 + 1 + 1, 0, none⟩)] W (fun x => x = w.heap.size + 1 + 1 ∨ x = w.heap.size + 1 + 1 + 1) (NrR (w.heap.size + 1 + 1 + 1) W.heap.size f)
    (fun x hx => by omega)
    (fun V hV hlt => normal1_any f ho V w.heap.size W.heap.size (w.heap.size + 1 + 1) w.heap.size (w.heap.size + 1 + 1 + 1) pb po (by omega) hlt (by omega) (by omega) (by omega) (cell_mv hV (by rw [cell_blk hnb.b0]; rfl) id) ((HA.out.mv hnb.nu (fun _ h => h.elim)).mv hV (fun _ h => h.elim)) ⟨hV.heap hnb.b2 id, by omega⟩ (hV.heap hnb.b3 id))
    (fun r V V' hr hm => hr.mv (by omega) hm))
  have HNB := hid hnb
  clear hnb
  go_wp2_with fail
  refine Calls.mono HT.out ?_
  rintro e w2 ⟨hm2, r, rfl, hr⟩
  have HM2 : Hid (Nu w w2) := HNB.out.nu.trans hm2 (fun x hx => .inr (by omega))
  have hb1 := hm2.heap HNB.out.b1 (by omega)
  have HSz : Hid (w.heap.size + 4 ≤ w2.heap.size) := by have := hm2.size; show _ ≤ _; omega
  clear hm2 HT
  cases r with
  | none =>
    obtain ⟨h0, d0, d1, d2, h1, h2⟩ := hr
    have HE : Hid (nmE f = 0 ∧ nmT f = (col true f).t) := by
      have : ¬ 20000 < cnt true f := by omega
      exact ⟨by unfold nmE; rw [if_neg this], by unfold nmT; rw [if_neg this]⟩
    obtain ⟨qk, qs, qo, ql, qc, hv⟩ := h2.cells
    cases hv
    simp only [misOf, show (((0 : Nat)) : Int) = 0 from rfl]
    have hM3 : Nu w2 (w2.alloc (.cells #[.int .i64 0, .int .i64 0] 34)) := Mv.alloc _ _ _
    have hb1' := hM3.heap hb1 id
    have h1' := hM3.heap h1 id
    have HB1 := hid hb1'
    have HM3 := hid (mv0 HM2.out hM3)
    have H2 := hid (h2.mv hM3 (fun _ _ _ h => h))
    have y0 := (three hb1').c0
    have y1 := (three hb1').c1
    have y2 := (three hb1').c2
    have f0 := free_blk hb1' 0
    have f1 := free_blk hb1' 1
    have f2 := free_blk hb1' 2
    have z0 := (three h1').c0
    have z1 := (three h1').c1
    have z2 := (three h1').c2
    have hltb := lt_of_block hb1'
    clear h0 h1 h2 hM3 hb1 hb1' h1'
    go_upto_region 6 with fail
    generalize hW3 : World.alloc _ _ = W3 at *
    clear hW3
    go_wp2_with fail
    have h3 := set3 HB1.out (.int .i64 qk) (.string qs) (.slice qo ql qc)
    generalize hW7 : World.setCell _ _ _ = W7 at h3 ⊢
    have p0 := (three h3.blk).c0
    have p1 := (three h3.blk).c1
    have p2 := (three h3.blk).c2
    refine bodyPost_ret (v := .tuple #[.agg #[.int .i64 qk, .string qs, .slice qo ql qc], .int .i64 0]) (by simp [results, Tryd.results20, go_sem, p0, p1, p2]) rfl ?_
    rw [← HO.out, HE.out.1, HE.out.2]
    exact ⟨HM3.out.trans h3.mv (fun x hx => .inr (by omega)), _, rfl, (H2.out.mv h3.mv (fun x hx _ e => by omega)).mono (fun x hx => by omega)⟩
  | some x =>
    obtain ⟨rfl, h0⟩ := hr
    have HE : Hid (nmE f = 2 ∧ nmT f = .mk 0 [] []) := ⟨by unfold nmE; rw [if_pos h0], by unfold nmT; rw [if_pos h0]⟩
    simp only [misOf, show (((0 : Nat)) : Int) = 0 from rfl, show (((2 : Nat)) : Int) = 2 from rfl]
    have hM3 : Nu w2 (w2.alloc (.cells #[.int .i64 2, .int .i64 0] 34)) := Mv.alloc _ _ _
    have hb1' := hM3.heap hb1 id
    have hc := heap_alloc_new w2 (.cells #[.int .i64 2, .int .i64 0] 34)
    have HB1 := hid hb1'
    have HM3 := hid (mv0 HM2.out hM3)
    have y0 := (three hb1').c0
    have y1 := (three hb1').c1
    have y2 := (three hb1').c2
    have f0 := free_blk hb1' 0
    have f1 := free_blk hb1' 1
    have f2 := free_blk hb1' 2
    have hltb := lt_of_block hb1'
    clear h0 hM3 hb1 hb1'
    go_upto_region 5 with fail
    generalize hW3 : World.alloc _ _ = W3 at *
    clear hW3
    have x0 : W3.cell? ⟨w2.heap.size, 0, none⟩ = some (.int .i64 2) := by rw [cell_blk hc]; rfl
    clear hc
    have hne : ¬ w2.heap.size = w.heap.size + 1 := by have := HSz.out; omega
    have hne' : ¬ w.heap.size + 1 = w2.heap.size := by have := HSz.out; omega
    go_region
    all_goals
      go_wp2_with fail
      have h3 := set3 HB1.out (.int .i64 0) (.string ⟨#[]⟩) (.slice none 0 0)
      generalize hW7 : World.setCell _ _ _ = W7 at h3 ⊢
      have hb7 := (Mv.drew (fun _ => False) W7).heap h3.blk id
      have p0 := (three hb7).c0
      have p1 := (three hb7).c1
      have p2 := (three hb7).c2
      refine bodyPost_ret (v := .tuple #[.agg #[.int .i64 0, .string ⟨#[]⟩, .slice none 0 0], .int .i64 2]) (by simp [results, Tryd.results20, go_sem, p0, p1, p2]) rfl ?_
      rw [← HO.out, HE.out.1, HE.out.2]
      exact ⟨(HM3.out.trans h3.mv (fun x hx => .inr (by omega))).trans (Mv.drew (fun _ => False) _) (fun _ h => h.elim), _, rfl, zeroT _ _⟩

theorem nrm_eq (t : T) : nrmE t = (if chk t ≠ 0 then chk t else nmE (fOf t)) ∧ nrmT t = (if chk t ≠ 0 then .mk 0 [] [] else nmT (fOf t)) := by
  unfold nrmT nrmE nmE nmT
  by_cases h : chk t ≠ 0
  · simp only [if_pos h]
    rw [if_neg h]
    first | exact ⟨rfl, rfl⟩ | exact ⟨trivial, rfl⟩
  · simp only [if_neg h]
    by_cases h2 : 20000 < cnt true (fOf t)
    · simp [h2]
    · simp [h2]

set_option maxHeartbeats 4000000 in
theorem Normal_any' (t : T) (hs : t.size ≤ 1000000) (w : World) (hG : Gl w) (c0 c1 c2 : Value) (h : TAt w c0 c1 c2 t) :
    Calls Tryd.prog 9 #[.agg #[c0, c1, c2]] w fun e w' => Nu w w' ∧ ∃ v, e = .returned (.tuple #[v, .int .i64 (nrmE t : Int)]) ∧ Ows w w' v (nrmT t) := by
  obtain ⟨q1, q2⟩ := nrm_eq t
  rw [q1, q2]
  clear q1 q2
  have HC : Hid (∀ W, Nu w W → Looks 19 #[.agg #[c0, c1, c2]] W (.int .i64 (chk t : Int))) := fun W hW => by
    obtain ⟨a, ha, rfl⟩ := AIn.of (h.nu hW)
    exact Check_any' a hs W (hG.nu hW) c0 c1 c2 ha
  have HNm : Hid (chk t = 0 → ∀ W pb, Nu w W → pb < W.heap.size → W.cell? ⟨pb, 0, none⟩ = some c0 → W.cell? ⟨pb, 0 + 1, none⟩ = some c1 → W.cell? ⟨pb, 0 + 2, none⟩ = some c2 → Calls Tryd.prog 20 #[.pointer (some ⟨pb, 0, none⟩)] W fun e w' => Nu W w' ∧ ∃ v, e = .returned (.tuple #[v, .int .i64 (nmE (fOf t) : Int)]) ∧ OwnT W.heap.size w' v (nmT (fOf t))) := fun hc W pb hW hp e0 e1 e2 => by
    have hm : t.may = true := by
      unfold chk at hc
      split at hc
      · cases hc
      · rename_i hq; simpa using hq
    obtain ⟨ho, he⟩ := fOf_ok hm
    exact normal_any (fOf t) ho W pb 0 c0 c1 c2 hp e0 e1 e2 (by rw [he]; exact h.nu hW)
  have hP : ∃ W, (w.alloc (.cells #[c0, c1, c2] 24)).alloc (.cells #[.int .i64 0, .string ⟨#[]⟩, .slice none 0 0] 24) = W ∧ Nu w W ∧ W.heap[w.heap.size]? = some (.cells #[c0, c1, c2] 24 (0, 0)) ∧ W.heap[w.heap.size + 1]? = some (.cells #[.int .i64 0, .string ⟨#[]⟩, .slice none 0 0] 24 (0, 0)) := by
    refine ⟨_, rfl, mv0 (Mv.alloc _ _ _) (Mv.alloc _ _ _), (Mv.alloc (fun _ => False) _ _).heap (heap_alloc_new w _) id, ?_⟩
    have := heap_alloc_new (w.alloc (.cells #[c0, c1, c2] 24)) (.cells #[.int .i64 0, .string ⟨#[]⟩, .slice none 0 0] 24)
    rw [show (w.alloc (.cells #[c0, c1, c2] 24)).heap.size = w.heap.size + 1 by simp] at this
    exact this
  obtain ⟨W, hW, hNu, hb0, hb1⟩ := hP
  have HW := hid hW
  have HNu := hid hNu
  have HB0 := hid hb0
  have HB1 := hid hb1
  obtain ⟨O, hO⟩ : ∃ O : Ending → World → Prop, (fun e w' => Nu w w' ∧ ∃ v, e = .returned (.tuple #[v, .int .i64 ((if chk t ≠ 0 then chk t else nmE (fOf t) : Nat) : Int)]) ∧ Ows w w' v (if chk t ≠ 0 then .mk 0 [] [] else nmT (fOf t))) = O := ⟨_, rfl⟩
  rw [hO]
  have HO := hid hO
  clear h hG hs hW hNu hb0 hb1 hO
  obtain ⟨ck, hck⟩ : ∃ ck, chk t = ck := ⟨_, rfl⟩
  rw [hck] at HC HNm HO
  clear hck
  go_enter Tryd.func9, Tryd.ntmps9
  go_upto_region 1 with fail
  rw [HW.out]
  have x0 : W.cell? ⟨w.heap.size, 0, none⟩ = some c0 := by rw [cell_blk HB0.out]; rfl
  have x1 : W.cell? ⟨w.heap.size, 1, none⟩ = some c1 := by rw [cell_blk HB0.out]; rfl
  have x2 : W.cell? ⟨w.heap.size, 2, none⟩ = some c2 := by rw [cell_blk HB0.out]; rfl
  go_wp2_with fail
  refine Calls.mono (HC.out W HNu.out) ?_
  rintro e w1 ⟨rfl, hm1⟩
  have hb0 := hm1.heap HB0.out id
  have hb1 := hm1.heap HB1.out id
  have HM1 := hid (mv0 HNu.out hm1)
  have hlt := lt_of_block hb1
  clear hm1 x0 x1 x2
  by_cases hk : ck = 0
  · subst hk
    have HWr := hid (HNm.out rfl w1 w.heap.size HM1.out (lt_of_block hb0) (by rw [cell_blk hb0]; rfl) (by rw [cell_blk hb0]; rfl) (by rw [cell_blk hb0]; rfl))
    have HB2 := hid hb1
    clear HNm HC hb0 hb1
    simp only [show (((0 : Nat)) : Int) = 0 from rfl]
    go_wp2_with fail
    refine Calls.mono HWr.out ?_
    rintro e w2 ⟨hm2, v, rfl, ho⟩
    obtain ⟨qk, qs, qo, ql, qc, rfl⟩ := ho.cells
    have hb2 := hm2.heap HB2.out id
    have HB3 := hid hb2
    have HM2 := hid (mv0 HM1.out hm2)
    have HOw := hid ho
    have y0 := (three hb2).c0
    have y1 := (three hb2).c1
    have y2 := (three hb2).c2
    have f0 := free_blk hb2 0
    have f1 := free_blk hb2 1
    have f2 := free_blk hb2 2
    have hltb := lt_of_block hb2
    clear hm2 ho hb2 HWr
    go_wp2_with fail
    have h3 := set3 HB3.out (.int .i64 qk) (.string qs) (.slice qo ql qc)
    generalize hW7 : World.setCell _ _ _ = W7 at h3 ⊢
    have p0 := (three h3.blk).c0
    have p1 := (three h3.blk).c1
    have p2 := (three h3.blk).c2
    refine bodyPost_ret (v := .tuple #[.agg #[.int .i64 qk, .string qs, .slice qo ql qc], .int .i64 (nmE (fOf t) : Int)]) (by simp [results, Tryd.results9, go_sem, p0, p1, p2]) rfl ?_
    rw [← HO.out]
    refine ⟨HM2.out.trans h3.mv (fun x hx => .inr (by omega)), _, rfl, ?_⟩
    exact OwnT.ows ((HOw.out.mv h3.mv (fun x hx _ e => by omega)).mono (fun x hx => by have := HM1.out.size; omega))
  · have hk' : ¬ (ck : Int) = 0 := by omega
    have HB2 := hid hb1
    have y0 := (three hb1).c0
    have y1 := (three hb1).c1
    have y2 := (three hb1).c2
    have f0 := free_blk hb1 0
    have f1 := free_blk hb1 1
    have f2 := free_blk hb1 2
    clear HNm HC hb0 hb1
    go_wp2_with fail
    have h3 := set3 HB2.out (.int .i64 0) (.string ⟨#[]⟩) (.slice none 0 0)
    generalize hW7 : World.setCell _ _ _ = W7 at h3 ⊢
    have p0 := (three h3.blk).c0
    have p1 := (three h3.blk).c1
    have p2 := (three h3.blk).c2
    refine bodyPost_ret (v := .tuple #[.agg #[.int .i64 0, .string ⟨#[]⟩, .slice none 0 0], .int .i64 (ck : Int)]) (by simp [results, Tryd.results9, go_sem, p0, p1, p2]) rfl ?_
    rw [← HO.out]
    refine ⟨HM1.out.trans h3.mv (fun x hx => .inr (by omega)), _, by rw [if_pos hk], ?_⟩
    rw [if_pos hk]
    exact OwnT.ows (zeroT w.heap.size W7)

end Go.Proofs.YtidihaecgmbhpabDoor
