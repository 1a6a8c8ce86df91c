/-
  SXPart.
-/
import Derived.Deep.RegionLaw
import Derived.Test.YthmdgbmodgfcmaaGreatDoorM13
import Derived.Test.YthmdgbmodgfcmaaGreatDoorM20
/-
  What the reader's part does: a name of a variable, and its index.
-/
namespace Go.Proofs.YthmdgbmodgfcmaaGreatDoor
open Go.RowKit

theorem setCell_same {w : World} {b j : Nat} {v : Value} (h : w.cell? ⟨b, j, none⟩ = some v) : w.setCell ⟨b, j, none⟩ v = w := by
  have hlt := block_lt_of_cell h
  unfold World.setCell
  congr 1
  apply Array.ext
  · simp
  · intro k h1 h2
    by_cases hk : k = b
    · subst hk
      rw [Array.getElem_modify_self]
      unfold World.cell? at h
      simp only [Array.getElem?_eq_getElem h2] at h
      split at h
      · rename_i c e fz heq
        simp at heq h
        rw [heq]
        simp only [Option.isSome_none, Bool.false_eq_true, if_false]
        congr 1
        apply Array.ext_getElem?
        intro q
        by_cases hq : q = j
        · subst hq
          rw [Array.getElem?_setIfInBounds_self, h]
          have := (Array.getElem?_eq_some_iff.1 h).1
          simp [this]
        · rw [Array.getElem?_setIfInBounds_ne (Ne.symm hq)]
      · cases h
    · rw [Array.getElem_modify_of_ne (Ne.symm hk)]

theorem row_form' {W : World} {base : Nat} {e : TypeId} {size : Nat} {v : Value} {n : Nat} {xs : List Value} (h : W.ownsRow base e size v n xs) : ∃ ao cap, v = .slice ao n cap := by
  rcases h.2 with ⟨rfl, rfl⟩ | ⟨g, cap, cur, rfl, _⟩
  · exact ⟨none, 0, rfl⟩
  · exact ⟨_, cap, rfl⟩

theorem row_new {W : World} {e : TypeId} {g cap n m : Nat} {xs news : List Value} (h : W.ownsRow 0 e 9 (.slice (some ⟨g, 0, none⟩) m cap) m (xs ++ news)) (hx : xs.length = n * 9) : (∀ (j : Nat) (u : Value), news[j]? = some u → W.cell? ⟨g, n * 9 + j, none⟩ = some u) ∧ (∀ j, W.frozen? ⟨g, j, none⟩ = false) := by
  rcases h.2 with ⟨hv, _⟩ | ⟨g', cap', cur, hv, _, hg, _, _, _, ht⟩
  · cases hv
  obtain ⟨rfl, rfl⟩ : g = g' ∧ cap = cap' := by injection hv with h1 h2 h3; injection h1 with h1; injection h1 with h1; exact ⟨h1, h3⟩
  refine ⟨fun j u hu => ?_, fun j => free_blk hg j⟩
  rw [cell_blk hg]
  have : (xs ++ news)[n * 9 + j]? = some u := by rw [List.getElem?_append_right (by omega), hx, Nat.add_sub_cancel_left]; exact hu
  rw [← ht, List.getElem?_take] at this
  split at this
  · simpa using this
  · cases this

set_option maxHeartbeats 4000000 in
theorem part_does (E : Env) (f : Nat) (ih : Sp E f) : ∀ (ns : List (List UInt8)) (ix : List (List D)) (hs : List Bool), ns.length + (f + 1) ≤ 1000000 → ix.length = ns.length → hs.length = ns.length → Rds E (f + 1) 144 (rf ns ix hs) (.part (rf ns ix hs)) := by
  intro ns ix hs hlen hlx hlh i hne w F b t N o hr ha hb hF
  have hs0 : St E w F b t N o 3 w F i (rf ns ix hs) := St.start hr ha hb hF
  obtain ⟨R, hI, hR⟩ := Is.start (run E.c (f + 1) (.part (rf ns ix hs)) i)
  show Calls _ _ _ _ (Post E F b t N o 3 w _)
  rw [hR] at hne ⊢
  clear hR hr ha hF
  rw [run_part] at hI
  have hl := strOfL_toList
  have hbr : ¬ b = E.rb := fun e => hb (.inl e)
  have hbr' : ¬ E.rb = b := fun e => hb (.inl e.symm)
  have hmf : ∀ (fn : Fn) (first cap : Array Value) (w : World), (Instr.makeFunc fn first cap).run Tryz.prog w = .ok (.func fn first cap) w := fun _ _ _ _ => rfl
  have HL : Hid (ns.length + (f + 1) ≤ 1000000 ∧ ix.length = ns.length ∧ hs.length = ns.length) := ⟨hlen, hlx, hlh⟩
  obtain ⟨info, z, hi, hz, hzc, hsize, hby⟩ := info_of .bool
  have HB : Hid (Tryz.prog.info? (ty.id .bool) = some info ∧ info.zero = some z ∧ z.cells.toList = (zero .bool).map zval ∧ info.size = ty.size .bool ∧ info.bytes ≤ 65536) := ⟨hi, hz, hzc, hsize, hby⟩
  clear hlen hlx hlh hi hz hzc hsize hby
  go_enter Tryz.func144, Tryz.ntmps144
  go_wp2_with fail
  obtain ⟨Fi1, hat1, hown1, hok1, hbad1⟩ := hs0.call 0 1 (by decide)
  simp only [Nat.add_zero] at hat1 hok1 hbad1
  refine (anotherString_any E 78 (ns.map fun s => [.str s]) i (run E.c f .name i) (ih.name [] i (hI.fuel hne)) ent_name (by have := HL.out; simp; omega) _ Fi1 _ _ _ o hs0.rd hat1 hs0.nb hown1).mono ?_
  intro e w1 hp1
  rcases hrun : run E.c f .name i with m | ⟨d1, j1⟩
  · rw [hrun, bnd_error] at hp1
    obtain rfl := hp1.1
    rw [hI.err hrun]
    exact ⟨rfl, hbad1 _ _ _ hp1⟩
  rw [hrun, bnd_ok] at hp1
  obtain rfl := hp1.1
  obtain ⟨F1, hs1⟩ := hok1 _ _ _ _ hp1
  replace hI := hI.ok hrun
  clear hrun
  go_wp2_with fail
  refine (is_any E j1 _ hs1.rd [91]).mono ?_
  rintro e w2 ⟨rfl, hm2⟩
  have hs2 := hs1.same hm2
  obtain ⟨v3, xs3, c3, hown3, hvb3, hgr3⟩ := hs2.grow 2 .bool (hs.map fun b => [.bit b]) rfl
  have f3 := hs2.cur.free (o + 2)
  have hblt := hs2.cur.blt
  have HO3 : Hid (w2.ownsRow 0 (ty.id .bool) (ty.size .bool) v3 (hs.map fun b => [D.bit b]).length xs3) := hown3
  have HG3 : Hid _ := hgr3
  have hzs : z.cells.size = 1 := by rw [← Array.length_toList, HB.out.2.2.1]; rfl
  have HZ : Hid (z.cells.size = 1) := hzs
  clear hzs
  rcases Decidable.em (E.c.keyAt j1 = [91]) with h1 | h1
  · rw [decide_eq_true h1]
    replace hI := hI.pos h1
    clear hown3 hvb3 hgr3
    go_wp2_with (at_builtin; refine wpList_append_lies _ rfl _ _ _ rfl 0 (ty.id .bool) info z 1 info.bytes Tryz.underlying36 HB.out.1 HB.out.2.1 HB.out.2.2.2.1 rfl HZ.out (by decide) v3 (hs.map fun b => [D.bit b]).length xs3 rfl (HO3.out.alloc _) ⟨w2.heap.size, 0, none⟩ 1 1 [.bool true] rfl rfl (World.news_of_block (heap_alloc_new w2 _)) (by simp [Value.oneCell']) (by decide) (by have := HL.out; unfold maxLen; simp; omega) (by have h1 := HL.out; have h2 := HB.out.2.2.2.2; simp only [List.length_map]; exact Nat.le_trans (Nat.mul_le_mul (show hs.length + 1 ≤ 1000001 by omega) h2) (by decide)) (Nat.zero_le _) (w2.heap.size + 1) (by simp) ?_; intro g cap w5 hown5 hgrow5 hat5 hg5; obtain ⟨⟨F5, hs5⟩, c5, f5, _⟩ := HG3.out _ _ [.bool true] [.bit true] g cap (Mv.alloc _ _ _) hgrow5 hown5 (by simpa using hat5) rfl (fun j d hd => by cases j with | zero => cases hd; exact ⟨_, rfl, fun _ => .bit _ _⟩ | succ j => simp at hd); clear hown5 hgrow5 hat5; have f5' := f5 (o + 2); clear f5)
    simp only [List.length_map] at hs5
    obtain ⟨Fi6, hat6, hown6, hok6, hbad6⟩ := hs5.call 1 1 (by decide)
    refine (anotherAst_any E 106 ix j1 (run E.c f .index j1) (ih.index j1 (hI.fuel hne)) ent_index (by have := HL.out; omega) _ Fi6 _ _ _ (o + 1) hs5.rd hat6 hs5.nb hown6).mono ?_
    intro e w6 hp6
    rcases hrun : run E.c f .index j1 with m | ⟨d6, j6⟩
    · rw [hrun, bnd_error] at hp6
      obtain rfl := hp6.1
      rw [hI.err hrun]
      exact ⟨rfl, hbad6 _ _ _ hp6⟩
    rw [hrun, bnd_ok] at hp6
    obtain rfl := hp6.1
    obtain ⟨F6, hs6⟩ := hok6 _ _ _ _ hp6
    replace hI := hI.ok hrun
    clear hrun
    go_wp2_with fail
    go_returns
    rw [hI.eq]
    exact hs6.done
  · rw [decide_eq_false h1]
    replace hI := hI.neg h1
    clear hown3 hvb3 hgr3
    go_wp2_with (at_builtin; refine wpList_append_lies _ rfl _ _ _ rfl 0 (ty.id .bool) info z 1 info.bytes Tryz.underlying36 HB.out.1 HB.out.2.1 HB.out.2.2.2.1 rfl HZ.out (by decide) v3 (hs.map fun b => [D.bit b]).length xs3 rfl (HO3.out.alloc _) ⟨w2.heap.size, 0, none⟩ 1 1 [.bool false] rfl rfl (World.news_of_block (heap_alloc_new w2 _)) (by simp [Value.oneCell']) (by decide) (by have := HL.out; unfold maxLen; simp; omega) (by have h1 := HL.out; have h2 := HB.out.2.2.2.2; simp only [List.length_map]; exact Nat.le_trans (Nat.mul_le_mul (show hs.length + 1 ≤ 1000001 by omega) h2) (by decide)) (Nat.zero_le _) (w2.heap.size + 1) (by simp) ?_; intro g cap w5 hown5 hgrow5 hat5 hg5; obtain ⟨⟨F5, hs5⟩, c5, f5, _⟩ := HG3.out _ _ [.bool false] [.bit false] g cap (Mv.alloc _ _ _) hgrow5 hown5 (by simpa using hat5) rfl (fun j d hd => by cases j with | zero => cases hd; exact ⟨_, rfl, fun _ => .bit _ _⟩ | succ j => simp at hd); clear hown5 hgrow5 hat5; have f5' := f5 (o + 2); clear f5)
    simp only [List.length_map] at hs5
    obtain ⟨v6, xs6, c6, hown6, hvb6, hgr6⟩ := hs5.grow 1 .ast ix rfl
    obtain ⟨ao6, cap6, rfl⟩ := row_form' hown6
    obtain ⟨n6, hn6⟩ : ∃ n6 : Nat, ix.length = n6 := ⟨_, rfl⟩
    obtain ⟨m6, hm6⟩ : ∃ m6 : Nat, ix.length + 1 = m6 := ⟨_, rfl⟩
    rw [hn6] at c6 hown6
    have hx6 : xs6.length = n6 * 9 := hown6.1
    have HX6 : Hid (xs6.length = n6 * 9 ∧ ix.length = n6 ∧ ix.length + 1 = m6 ∧ n6 ≤ 1000000) := ⟨hx6, hn6, hm6, by have := HL.out; omega⟩
    have hlt6 : (n6 : Int) < (n6 : Int) + 1 := by omega
    have f6 := hs5.cur.free (o + 1)
    have hblt6 := hs5.cur.blt
    obtain ⟨info2, z2, hi2, hz2, hzc2, hsize2, hby2⟩ := info_of .ast
    have HB2 : Hid (Tryz.prog.info? (ty.id .ast) = some info2 ∧ info2.zero = some z2 ∧ z2.cells.toList = (zero .ast).map zval ∧ info2.size = ty.size .ast ∧ info2.bytes ≤ 65536) := ⟨hi2, hz2, hzc2, hsize2, hby2⟩
    have HZ2 : Hid (z2.cells.size = 9) := by show _ = _; rw [← Array.length_toList, hzc2]; rfl
    clear hi2 hz2 hzc2 hsize2 hby2
    generalize hW : w5.setCell ⟨b, o + 2, none⟩ (.slice (some ⟨g, 0, none⟩) (hs.length + 1) cap) = W at *
    have HO6 : Hid (W.ownsRow 0 (ty.id .ast) (ty.size .ast) (.slice ao6 n6 cap6) n6 xs6) := hown6
    have HG6 : Hid _ := hgr6
    clear hown6 hvb6 hgr6 hW c5 f5' c3 f3 hg5 HG3 HO3 hx6 hn6 hm6
    go_region_law (refine step_append_lies _ rfl _ _ _ rfl 0 (ty.id .ast) info2 z2 9 info2.bytes Tryz.underlying35 HB2.out.1 HB2.out.2.1 HB2.out.2.2.2.1 rfl HZ2.out (by decide) (.slice ao6 n6 cap6) n6 xs6 rfl (((HO6.out : W.drew.ownsRow 0 (ty.id .ast) (ty.size .ast) (.slice ao6 n6 cap6) n6 xs6)).alloc _) ⟨W.heap.size, 0, none⟩ 1 1 ((zero .ast).map zval) rfl rfl (World.news_of_block (heap_alloc_new W.drew _)) (zval_one _) (by decide) (by have := HX6.out; unfold maxLen; omega) (by have h1 := HX6.out; have h2 := HB2.out.2.2.2.2; exact Nat.le_trans (Nat.mul_le_mul (show n6 + 1 ≤ 1000001 by omega) h2) (by decide)) (Nat.zero_le _) (W.heap.size + 1) (by simp) ?_; intro g7 cap7 w7 hown7 hgrow7 hat7 hg7; obtain ⟨hc7, hf7⟩ := row_new hown7 HX6.out.1; have k0 : w7.cell? ⟨g7, n6 * 9, none⟩ = some (.int .i64 0) := hc7 0 _ rfl; have k1 : w7.cell? ⟨g7, n6 * 9 + 1, none⟩ = some (.int .i64 0) := hc7 1 _ rfl; have k2 : w7.cell? ⟨g7, n6 * 9 + 2, none⟩ = some (.string ⟨#[]⟩) := hc7 2 _ rfl; have k3 : w7.cell? ⟨g7, n6 * 9 + 3, none⟩ = some (.string ⟨#[]⟩) := hc7 3 _ rfl; have k4 : w7.cell? ⟨g7, n6 * 9 + 4, none⟩ = some (.slice none 0 0) := hc7 4 _ rfl; have k5 : w7.cell? ⟨g7, n6 * 9 + 5, none⟩ = some (.slice none 0 0) := hc7 5 _ rfl; have k6 : w7.cell? ⟨g7, n6 * 9 + 6, none⟩ = some (.slice none 0 0) := hc7 6 _ rfl; have k7 : w7.cell? ⟨g7, n6 * 9 + 7, none⟩ = some (.slice none 0 0) := hc7 7 _ rfl; have k8 : w7.cell? ⟨g7, n6 * 9 + 8, none⟩ = some (.slice none 0 0) := hc7 8 _ rfl; clear hc7; rw [← HX6.out.2.1] at hown7 hgrow7 hat7; obtain ⟨⟨F7, hs7⟩, c7, f7, hgb7, hbl7⟩ := HG6.out _ _ _ zAst g7 cap7 ((Mv.alloc (fun _ => False) W _).trans (Mv.drew (fun _ => False) _) (fun _ h => .inl h)) hgrow7 hown7 (by simpa using hat7) rfl (fun j d hd => ⟨zval d, by rw [List.getElem?_map, show (zero .ast)[j]? = some d from hd]; rfl, fun w' => zval_is _ w' _ .ast d (List.mem_of_getElem? hd)⟩); rw [HX6.out.2.1] at hs7 c7; clear hown7 hgrow7 hat7)
    all_goals
      have kk : ∀ (j : Nat) (u : Value), w7.cell? ⟨g7, j, none⟩ = some u → (w7.setCell ⟨b, o + 1, none⟩ (.slice (some ⟨g7, 0, none⟩) (n6 + 1) cap7)).cell? ⟨g7, j, none⟩ = some u := fun j u hu => by rw [← hu]; exact World.cell?_setCell_other _ _ _ _ (by intro e; injection e with e1; exact hgb7 e1.symm)
      first
        | simp only [setCell_same k0, setCell_same k1, setCell_same k2, setCell_same k3, setCell_same k4, setCell_same k5, setCell_same k6, setCell_same k7, setCell_same k8]
        | simp only [setCell_same (kk _ _ k0), setCell_same (kk _ _ k1), setCell_same (kk _ _ k2), setCell_same (kk _ _ k3), setCell_same (kk _ _ k4), setCell_same (kk _ _ k5), setCell_same (kk _ _ k6), setCell_same (kk _ _ k7), setCell_same (kk _ _ k8)]
      refine bodyPost_end (results_none rfl _ _ _) rfl ?_
      rw [hI.eq]
      exact hs7.done

end Go.Proofs.YthmdgbmodgfcmaaGreatDoor
