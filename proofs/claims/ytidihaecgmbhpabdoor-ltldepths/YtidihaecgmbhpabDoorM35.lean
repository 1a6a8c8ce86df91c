/-
  VPrint.
-/
import Derived.Test.YtidihaecgmbhpabDoorM10
import Derived.Test.YtidihaecgmbhpabDoorM28
import Derived.Test.YtidihaecgmbhpabDoorM29
/-
  What the program's write and Print give.
-/
set_option linter.unusedSimpArgs false
set_option linter.unusedVariables false
namespace Go.Proofs.YtidihaecgmbhpabDoor
open Go.RowKit Q

set_option maxHeartbeats 4000000 in
theorem write_any (f : F) (ho : f.ok = true) (w : World) (pb po : Nat) (h : FAt w w.heap.size pb po f) : Looks 28 #[.pointer (some ⟨pb, po, none⟩)] w (.tuple #[.string (strOfL (wrt f).1), .int .i64 ((wrt f).2 : Int)]) := by
  have HF := hid h
  clear h
  obtain ⟨rs, hrs⟩ : ∃ rs, (wrt f).1 = rs := ⟨_, rfl⟩
  obtain ⟨rn, hrn⟩ : ∃ rn, (wrt f).2 = rn := ⟨_, rfl⟩
  have HR : Hid (wrt f = (rs, rn)) := by show _ = _; rw [← hrs, ← hrn]
  rw [hrs, hrn]
  clear hrs hrn
  unfold Looks
  go_enter Tryd.func28, Tryd.ntmps28
  go_upto_region 2 with fail
  have hM1 : Nu w ((w.alloc (.cells #[.pointer (some ⟨pb, po, none⟩)] 49)).alloc (.cells #[.slice none 0 0] 98)) := mv0 (Mv.alloc _ _ _) (Mv.alloc _ _ _)
  have hb1 : ((w.alloc (.cells #[.pointer (some ⟨pb, po, none⟩)] 49)).alloc (.cells #[.slice none 0 0] 98)).heap[w.heap.size + 1]? = some (.cells #[.slice none 0 0] 98 (0, 0)) := by
    have := heap_alloc_new (w.alloc (.cells #[.pointer (some ⟨pb, po, none⟩)] 49)) (.cells #[.slice none 0 0] 98)
    rw [show (w.alloc (.cells #[.pointer (some ⟨pb, po, none⟩)] 49)).heap.size = w.heap.size + 1 by simp] at this
    exact this
  have hb0 : ((w.alloc (.cells #[.pointer (some ⟨pb, po, none⟩)] 49)).alloc (.cells #[.slice none 0 0] 98)).heap[w.heap.size]? = some (.cells #[.pointer (some ⟨pb, po, none⟩)] 49 (0, 0)) := (Mv.alloc (fun _ => False) _ _).heap (heap_alloc_new w _) id
  generalize hW : World.alloc _ _ = W1 at hM1 hb1 hb0 ⊢
  clear hW
  have HA := hid (att_write f ho W1 (w.heap.size + 1) (w.heap.size + 1) w.heap.size pb po rfl (by omega) (by rw [cell_blk hb0]; rfl) ((HF.out.nu hM1).up (by omega)) hb1)
  have HM1 := hid hM1
  have HB1 := hid hb1
  clear hM1 hb1 hb0
  go_wp2_with fail
  refine Calls.mono HA.out ?_
  rintro e w2 ⟨hm2, r, rfl, hr⟩
  have HM2 : Hid (Nu w w2) := HM1.out.trans hm2 (fun x hx => .inr (by have := hx.1; omega))
  clear hm2 HA
  cases r with
  | none =>
    obtain ⟨h0, v, h1, h2, _⟩ := hr
    obtain ⟨ao, cap, rfl⟩ := rowF_len h2
    have HE : Hid (rs = f.text ∧ rn = 0) := by
      have := HR.out.symm.trans h0
      injection this with e1 e2
      exact ⟨e1, e2⟩
    simp only [misOf, show (((0 : Nat)) : Int) = 0 from rfl]
    have hM3 : Nu w2 (w2.alloc (.cells #[.int .i64 0, .int .i64 0] 34)) := Mv.alloc _ _ _
    have k0 := cell_mv hM3 (show w2.cell? ⟨w.heap.size + 1, 0, none⟩ = some (.slice ao f.text.length cap) by rw [cell_blk h1]; rfl) id
    have hs := string_row (rowF_mv h2 hM3 (fun _ _ h => h))
    have HM3 := hid (mv0 HM2.out hM3)
    clear h0 h1 h2 hM3
    go_wp2_with fail
    go_ret2
    refine ⟨?_, HM3.out⟩
    rw [HE.out.1, HE.out.2]
    rfl
  | some x =>
    obtain ⟨rfl, h0⟩ := hr
    simp only [misOf, show (((0 : Nat)) : Int) = 0 from rfl, show (((2 : Nat)) : Int) = 2 from rfl]
    have HE : Hid (rs = [] ∧ rn = 2) := by
      have := HR.out.symm.trans h0
      injection this with e1 e2
      exact ⟨e1, e2⟩
    clear h0
    go_upto_region 4 with fail
    go_region
    all_goals
      go_wp2_with fail
      go_ret2
      refine ⟨?_, mv0 HM2.out (mv0 (Mv.alloc _ _ _) (Mv.drew _ _))⟩
      rw [HE.out.1, HE.out.2]
      rfl

theorem size_text (f : F) : f.ok = true → f.size ≤ f.text.length := by
  have hp : ∀ (x : Bool) (s : Wd), s.length ≤ (par x s).length := fun x s => by
    cases x with
    | false => exact Nat.le_refl _
    | true => show s.length ≤ ([40] ++ s ++ [41]).length; simp only [List.length_append, List.length_cons, List.length_nil]; omega
  induction f with
  | tt => exact fun _ => by decide
  | ff => exact fun _ => by decide
  | pr s =>
    intro h
    have h1 : isName s = true := h
    unfold isName at h1
    simp only [Bool.and_eq_true, decide_eq_true_eq] at h1
    exact h1.1.1.1.1
  | u o a ih =>
    intro h
    have h1 := ih h
    have h2 := hp (decide (a.level < 5)) a.text
    have h3 : 1 ≤ (up o).length := by cases o <;> decide
    simp only [F.text, F.size, List.length_append]
    omega
  | b o a c iha ihc =>
    intro h
    have h' : a.ok = true ∧ c.ok = true := by simpa [F.ok] using h
    have h1 := iha h'.1
    have h1' := ihc h'.2
    have h2 := hp (decide (a.level < lft o)) a.text
    have h2' := hp (decide (c.level < rgt o)) c.text
    simp only [F.text, F.size, List.length_append, List.length_cons, List.length_nil]
    omega

theorem prn_eq (t : T) : prn t = if chk t ≠ 0 then ([], chk t) else wrt (fOf t) := by
  by_cases hm : t.may = true
  · obtain ⟨ho, he⟩ := fOf_ok hm
    have hd : (fOf t).depth = t.depth := by rw [← he, fOf_t ho, F.depth_t]
    have hs := size_text _ ho
    unfold prn chk
    rw [if_pos hm, hm]
    unfold printF wrt
    rw [hd]
    by_cases h1 : 100 < t.depth
    · simp [h1]
    · simp only [h1, if_false]
      by_cases h2 : 4096 < (fOf t).size
      · have h3 : 4096 < (fOf t).text.length := by omega
        simp [h2, h3]
      · rw [if_neg h2]
        simp
  · have hm' : t.may = false := by simpa using hm
    unfold prn chk
    rw [if_neg hm, hm']
    simp

set_option maxHeartbeats 4000000 in
theorem Print_any' (t : T) (hs : t.size ≤ 1000000) (w : World) (hG : Gl w) (hz : 3 ≤ w.heap.size) (c0 c1 c2 : Value) (h : TAt w c0 c1 c2 t) : Looks 16 #[.agg #[c0, c1, c2]] w (.tuple #[.string (strOfL (prn t).1), .int .i64 ((prn t).2 : Int)]) := by
  obtain ⟨r1, hr1⟩ : ∃ r1, (prn t).1 = r1 := ⟨_, rfl⟩
  obtain ⟨r2, hr2⟩ : ∃ r2, (prn t).2 = r2 := ⟨_, rfl⟩
  have HR : Hid ((r1, r2) = if chk t ≠ 0 then ([], chk t) else wrt (fOf t)) := by show _ = _; rw [← hr1, ← hr2, ← prn_eq]
  rw [hr1, hr2]
  clear hr1 hr2
  have HC : Hid (∀ W, Nu w W → Looks 19 #[.agg #[c0, c1, c2]] W (.int .i64 (chk t : Int))) := fun W hW => by
    obtain ⟨a, ha, rfl⟩ := AIn.of (h.nu hW)
    exact Check_any' a hs W (hG.nu hW) c0 c1 c2 ha
  have HW : Hid (chk t = 0 → ∀ W pb, Nu w W → pb < W.heap.size → W.cell? ⟨pb, 0, none⟩ = some c0 → W.cell? ⟨pb, 1, none⟩ = some c1 → W.cell? ⟨pb, 2, none⟩ = some c2 → Looks 28 #[.pointer (some ⟨pb, 0, none⟩)] W (.tuple #[.string (strOfL (wrt (fOf t)).1), .int .i64 ((wrt (fOf t)).2 : Int)])) := fun hc W pb hW hp e0 e1 e2 => by
    have hm : t.may = true := by
      unfold chk at hc
      split at hc
      · cases hc
      · rename_i hq; simpa using hq
    obtain ⟨ho, he⟩ := fOf_ok hm
    refine write_any (fOf t) ho W pb 0 ⟨hG.nu hW, Nat.le_trans hz hW.size, hp, c0, c1, c2, e0, e1, e2, ?_⟩
    rw [he]
    exact (h.nu hW).mono (fun x _ hx => hx)
  have hB := box3 w c0 c1 c2 24
  obtain ⟨W0, hW0⟩ : ∃ W0, w.alloc (.cells #[c0, c1, c2] 24) = W0 := ⟨_, rfl⟩
  rw [hW0] at hB
  have HB := hid hB
  clear h hG hs hz
  obtain ⟨ck, hck⟩ : ∃ ck, chk t = ck := ⟨_, rfl⟩
  rw [hck] at HC HW HR
  clear hck
  unfold Looks
  go_enter Tryd.func16, Tryd.ntmps16
  go_upto_region 1 with fail
  clear hW0 hB
  have hc0 := HB.out.a0
  have hc1 := HB.out.a1
  have hc2 := HB.out.a2
  go_wp2_with fail
  refine Calls.mono (HC.out _ HB.out.mv) ?_
  rintro e w1 ⟨rfl, hm1⟩
  have HM1 := hid (mv0 HB.out.mv hm1)
  have HC0 := hid (And.intro (cell_mv hm1 hc0 id) (And.intro (cell_mv hm1 hc1 id) (cell_mv hm1 hc2 id)))
  have HLt : Hid (w.heap.size < w1.heap.size) := Nat.lt_of_lt_of_le HB.out.lt hm1.size
  clear hm1 hc0 hc1 hc2
  by_cases hk : ck = 0
  · subst hk
    have HWr := hid (HW.out rfl w1 w.heap.size HM1.out HLt.out HC0.out.1 HC0.out.2.1 HC0.out.2.2)
    have HX : Hid ((r1, r2) = wrt (fOf t)) := by show _ = _; rw [HR.out]; simp
    rw [← HX.out] at HWr
    simp only at HWr
    clear HW HR HX
    simp only [show (((0 : Nat)) : Int) = 0 from rfl]
    go_wp2_with (go_at_call 28; refine Calls.mono HWr.out ?_; rintro e w2 ⟨rfl, hm2⟩; have HM2 := hid (mv0 HM1.out hm2); clear hm2)
    go_ret2
    exact ⟨rfl, HM2.out⟩
  · have hk' : ¬ (ck : Int) = 0 := by omega
    have HX : Hid (r1 = [] ∧ r2 = ck) := by
      have := HR.out
      rw [if_pos hk] at this
      injection this with e1 e2
      exact ⟨e1, e2⟩
    clear HW HR
    go_wp2_with fail
    go_ret2
    refine ⟨?_, HM1.out⟩
    rw [HX.out.1, HX.out.2]
    rfl

end Go.Proofs.YtidihaecgmbhpabDoor
