/-
  VWord, VWords.
-/
import Derived.Test.YtidihaecgmbhpabDoorM10
import Derived.Test.YtidihaecgmbhpabDoorM7
/-
  The word that begins at a place: what the program's wordAt gives.
-/
set_option linter.unusedSimpArgs false
namespace Go.Proofs.YtidihaecgmbhpabDoor
open Go.RowKit Q

/-- A word: its kind, its place, its name. -/
structure Wrd where
  k : Int
  at' : Nat
  nm : Wd

def Wrd.val (x : Wrd) : Value := .agg #[.int .i64 x.k, .int .i64 (x.at' : Int), .string (strOfL x.nm)]

/-- The word at a place, and where it ends. -/
def wAt (s : Wd) (p : Nat) : Wrd × Nat :=
  match sgnT.find? (fun x => x.1.isPrefixOf (s.drop p)) with
  | some x => (⟨x.2, p, []⟩, p + x.1.length)
  | none => if rowEnd s p = p ∨ 32 < rowEnd s p - p then (⟨0, 0, []⟩, p) else
    (⟨wkind ((s.take (rowEnd s p)).drop p), p, if wkind ((s.take (rowEnd s p)).drop p) = 3 then (s.take (rowEnd s p)).drop p else []⟩, rowEnd s p)

theorem rowEnd_ge (s : Wd) (p : Nat) : p ≤ rowEnd s p := by
  unfold rowEnd
  split
  · split
    · exact Nat.le_refl _
    · exact tw_ge _ _ _
  · exact Nat.le_refl _
theorem rowEnd_le (s : Wd) (p : Nat) (h : p ≤ s.length) : rowEnd s p ≤ s.length := by
  unfold rowEnd
  split
  · split
    · exact h
    · exact tw_le _ _ _ h
  · exact h

theorem clone_any (s : Wd) (hs : s.length ≤ 140737488355328) (w : World) : Looks 59 #[.string (strOfL s)] w (.string (strOfL s)) := by
  have HC := hid (fun W => Tryd.stringslite_Clone (strOfL s) W (by rw [str_size]; omega))
  unfold Looks
  go_enter Tryd.func59, Tryd.ntmps59
  go_wp2_with fail
  refine Calls.mono (HC.out w) ?_
  rintro e w1 ⟨rfl, hb⟩
  have HB := hid hb
  clear hb
  go_wp2_with fail
  go_ret
  exact ⟨rfl, Mv.of_below HB.out⟩

set_option maxHeartbeats 8000000 in
theorem wordAt_any (s : Wd) (p : Nat) (hs : s.length ≤ 140737488355328) (hp : p < s.length) (w : World) (hG : Gl w) :
    Looks 42 #[.string (strOfL s), .int .i64 (p : Int)] w (.tuple #[(wAt s p).1.val, .int .i64 ((wAt s p).2 : Int)]) := by
  have hR := hG.sgn
  have hz : (Tryd.prog.info? 110).map (·.size) = some (spellC sgnT).size := by kernel_rfl
  have HI := hid (fun W => index_sgn W)
  have HG := hid hG
  have hsz := str_size s
  have HPre : Hid (∀ (x : Wd) (W : World), Calls Tryd.prog 58 #[.string ((strOfL s).extract p (strOfL s).size), .string (strOfL x)] W fun e w' => e = .returned (.bool (x.isPrefixOf (s.drop p))) ∧ w' = W) := fun x W => by
    refine Calls.mono (Tryd.strings_HasPrefix _ _ W) ?_
    rintro e w' ⟨rfl, rfl⟩
    refine ⟨?_, rfl⟩
    rw [ext_str, hsz, List.take_of_length_le (Nat.le_refl _)]
    simp [Lib.hasPrefix, strOfL]
  have HW : Hid (∀ (i : Nat) (x : Wd × Int), sgnT[i]? = some x → x.1.isPrefixOf (s.drop p) = true → (∀ (j : Nat) (y : Wd × Int), j < i → sgnT[j]? = some y → y.1.isPrefixOf (s.drop p) = false) → wAt s p = (⟨x.2, p, []⟩, p + x.1.length)) := fun i x hx h1 h2 => by
    unfold wAt
    rw [find_at hx h1 h2]
  have HN : Hid ((∀ (j : Nat) (y : Wd × Int), sgnT[j]? = some y → y.1.isPrefixOf (s.drop p) = false) → sgnT.find? (fun x => x.1.isPrefixOf (s.drop p)) = none) := fun h => find_no h
  have HRE := hid (fun W => rowEnd_any s p hs hp W)
  have HSZ := hid hsz
  have HPL := hid hp
  have HS' := hid hs
  have hps : (p : Int) ≤ ((strOfL s).size : Int) := by omega
  have hss : (strOfL s).size ≤ 140737488355328 := by omega
  generalize spellC sgnT = C at hR HI hz
  have HR := hid hR
  have HZ := hid hz
  clear hR hz hG hsz
  unfold Looks
  go_enter Tryd.func42, Tryd.ntmps42
  go_wp2_with (refine wpList_load_row rfl _ _ rfl _ rfl _ _ _ _ ((Mv.alloc (fun _ => False) w _).heap HR.out id) Tryd.underlying110 rfl HZ.out ?_)
  have HR0 : Hid ((w.alloc (.cells #[.int .i64 0, .int .i64 0, .string ⟨#[]⟩] 89)).heap[w.heap.size]? = some (.cells #[.int .i64 0, .int .i64 0, .string ⟨#[]⟩] 89 (0, 0))) := heap_alloc_new _ _
  have HM0 : Hid (Nu w (w.alloc (.cells #[.int .i64 0, .int .i64 0, .string ⟨#[]⟩] 89))) := Mv.alloc _ _ _
  go_loopw [11] (fun iv wr => ∃ i : Nat, i ≤ 11 ∧ iv = .int .i64 (i : Int) ∧ Hid (Nu w wr) ∧ Hid (wr.heap[w.heap.size]? = some (.cells #[.int .i64 0, .int .i64 0, .string ⟨#[]⟩] 89 (0, 0))) ∧ Hid (∀ (j : Nat) (y : Wd × Int), j < i → sgnT[j]? = some y → y.1.isPrefixOf (s.drop p) = false)) (fun iv _ => 11 - (intOf iv).toNat)
  case atStart => exact ⟨0, Nat.zero_le _, rfl, HM0, HR0, fun j t hj => absurd hj (Nat.not_lt_zero _)⟩
  case round =>
    obtain ⟨i, hi, rfl, HM, HRb, HF⟩ := hrel
    clear HR0 HM0
    by_cases hj : i < 11
    · have hj' : (i : Int) < 11 := by omega
      obtain ⟨x, hx⟩ : ∃ x, sgnT[i]? = some x := ⟨_, List.getElem?_eq_getElem (by exact hj)⟩
      have hIx := HI.out wr i x hx
      have HX := hid hx
      obtain ⟨x1, x2⟩ := x
      clear hx
      go_upto_region 4 with fail
      have hbx := heap_alloc_new wr (.cells #[.string (strOfL x1), .int .i64 x2] 109)
      have hM1 : Nu wr (wr.alloc (.cells #[.string (strOfL x1), .int .i64 x2] 109)) := Mv.alloc _ _ _
      generalize hW : World.alloc _ _ = W1 at hbx hM1 ⊢
      clear hW hIx
      have HRb1 := hid (hM1.heap HRb.out id)
      have HM1 := hid (mv0 HM.out hM1)
      have z0 : W1.cell? ⟨wr.heap.size, 0, none⟩ = some (.string (strOfL x1)) := by rw [cell_blk hbx]; rfl
      have z1 : W1.cell? ⟨wr.heap.size, 1, none⟩ = some (.int .i64 x2) := by rw [cell_blk hbx]; rfl
      clear hM1 hbx
      cases hpre : x1.isPrefixOf (s.drop p) with
      | true =>
        have hP1 : ∀ W : World, Calls Tryd.prog 58 #[.string ((strOfL s).extract p (strOfL s).size), .string (strOfL x1)] W fun e w' => e = .returned (.bool true) ∧ w' = W := fun W => by rw [← hpre]; exact HPre.out x1 W
        have HP1 := hid hP1
        have HE := hid (HW.out i _ HX.out hpre HF.out)
        have hx1 : (strOfL x1).size ≤ 140737488355328 ∧ (strOfL x1).size + p ≤ 140737488355328 := by
          have h1 := List.IsPrefix.length_le (List.isPrefixOf_iff_prefix.1 hpre)
          have h2 := str_size x1
          rw [List.length_drop] at h1
          have h3 := HS'.out
          have h4 := HPL.out
          omega
        have HX1 := hid (str_size x1)
        clear hpre hP1
        go_quiet ((go_at_call 58; exact Calls.quiet_of_same (HP1.out _)))
        have hM2 : Nu W1 (W1.drewN nq) := Mv.drewN _ _ _
        generalize hW : World.drewN _ _ = W2 at hM2 ⊢
        clear hW
        replace z0 := cell_mv hM2 z0 id
        replace z1 := cell_mv hM2 z1 id
        have hrb := hM2.heap HRb1.out id
        have r0 : W2.cell? ⟨w.heap.size, 0, none⟩ = some (.int .i64 0) := by rw [cell_blk hrb]; rfl
        have r1 : W2.cell? ⟨w.heap.size, 1, none⟩ = some (.int .i64 0) := by rw [cell_blk hrb]; rfl
        have r2 : W2.cell? ⟨w.heap.size, 2, none⟩ = some (.string ⟨#[]⟩) := by rw [cell_blk hrb]; rfl
        have f0 := free_blk hrb 0
        have f1 := free_blk hrb 1
        have f2 := free_blk hrb 2
        have HRb2 := hid hrb
        have HM2 := hid (mv0 HM1.out hM2)
        have hlt0 : w.heap.size < wr.heap.size := lt_of_block HRb.out
        have hne : w.heap.size ≠ wr.heap.size := by omega
        clear hM2 hrb
        go_upto_region 5 with fail
        go_region
        all_goals
          go_wp2_with fail
          have h3 := set3 HRb2.out (.int .i64 x2) (.int .i64 (p : Int)) (.string ⟨#[]⟩)
          generalize hW : World.setCell _ _ _ = W3 at h3 ⊢
          have y0 : W3.drew.cell? ⟨w.heap.size, 0, none⟩ = some (.int .i64 x2) := (three h3.blk).c0
          have y1 : W3.drew.cell? ⟨w.heap.size, 1, none⟩ = some (.int .i64 (p : Int)) := (three h3.blk).c1
          have y2 : W3.drew.cell? ⟨w.heap.size, 2, none⟩ = some (.string ⟨#[]⟩) := (three h3.blk).c2
          refine bodyPost_ret (v := .tuple #[.agg #[.int .i64 x2, .int .i64 (p : Int), .string ⟨#[]⟩], .int .i64 ((p : Int) + (strOfL x1).size)]) (by simp [results, Tryd.results42, go_sem, y0, y1, y2]) rfl ?_
          refine ⟨?_, HM2.out.trans (h3.mv.trans (Mv.drew _ _) (fun _ h => .inl h)) (fun x hx => .inr (by omega))⟩
          rw [HE.out]
          unfold Wrd.val
          simp only [HX1.out]
          push_cast
          rfl
      | false =>
        have hP1 : ∀ W : World, Calls Tryd.prog 58 #[.string ((strOfL s).extract p (strOfL s).size), .string (strOfL x1)] W fun e w' => e = .returned (.bool false) ∧ w' = W := fun W => by rw [← hpre]; exact HPre.out x1 W
        have HP1 := hid hP1
        have HF1 : Hid (∀ (j : Nat) (y : Wd × Int), j < i + 1 → sgnT[j]? = some y → y.1.isPrefixOf (s.drop p) = false) := fun j y h1 h2 => by
          by_cases hji : j = i
          · subst hji
            rw [HX.out] at h2
            cases h2
            exact hpre
          · exact HF.out j y (by omega) h2
        clear hpre hP1
        go_quiet ((go_at_call 58; exact Calls.quiet_of_same (HP1.out _)))
        go_wp2_with fail
        go_roundw
        case rel => exact ⟨i + 1, hj, by go_num, mv0 HM1.out (Mv.drewN _ _ _), (Mv.drewN (fun _ => False) W1 _).heap HRb1.out id, HF1⟩
        case measure => simp [intOf]; omega
    · have hj' : ¬ (i : Int) < 11 := by omega
      have HNo := hid (HN.out (fun j y hy => HF.out j y (by have := (List.getElem?_eq_some_iff.1 hy).1; have h12 : sgnT.length = 11 := rfl; omega) hy))
      go_wp2_with fail
      refine Calls.mono (HRE.out wr) ?_
      rintro e w1 ⟨rfl, hw1⟩
      rw [hw1]
      clear hw1 w1
      by_cases hbad : rowEnd s p = p ∨ 32 < rowEnd s p - p
      · have HE : Hid (wAt s p = (⟨0, 0, []⟩, p)) := by
          show _ = _
          unfold wAt
          rw [HNo.out, if_pos hbad]
        have hrb := HRb.out
        have r0 : wr.cell? ⟨w.heap.size, 0, none⟩ = some (.int .i64 0) := by rw [cell_blk hrb]; rfl
        have r1 : wr.cell? ⟨w.heap.size, 1, none⟩ = some (.int .i64 0) := by rw [cell_blk hrb]; rfl
        have r2 : wr.cell? ⟨w.heap.size, 2, none⟩ = some (.string ⟨#[]⟩) := by rw [cell_blk hrb]; rfl
        have f0 := free_blk hrb 0
        have f1 := free_blk hrb 1
        have f2 := free_blk hrb 2
        have hge := rowEnd_ge s p
        have hle := rowEnd_le s p (Nat.le_of_lt HPL.out)
        have HSS := hid HS'.out
        have hlen := HS'.out
        clear hrb
        generalize rowEnd s p = q at *
        by_cases hq1 : q = p
        · subst hq1
          go_wp2_with fail
          have h3 := set3 HRb.out (.int .i64 0) (.int .i64 0) (.string ⟨#[]⟩)
          generalize hW : World.setCell _ _ _ = W3 at h3 ⊢
          have y0 : W3.cell? ⟨w.heap.size, 0, none⟩ = some (.int .i64 0) := (three h3.blk).c0
          have y1 : W3.cell? ⟨w.heap.size, 1, none⟩ = some (.int .i64 0) := (three h3.blk).c1
          have y2 : W3.cell? ⟨w.heap.size, 2, none⟩ = some (.string ⟨#[]⟩) := (three h3.blk).c2
          refine bodyPost_ret (v := .tuple #[.agg #[.int .i64 0, .int .i64 0, .string ⟨#[]⟩], .int .i64 (q : Int)]) (by simp [results, Tryd.results42, go_sem, y0, y1, y2]) rfl ?_
          refine ⟨?_, HM.out.trans h3.mv (fun x hx => .inr (by omega))⟩
          rw [HE.out]
          rfl
        · have hq1' : ¬ (q : Int) = (p : Int) := by omega
          have hq2 : (q : Int) - (p : Int) > 32 := by omega
          go_wp2_with fail
          have h3 := set3 HRb.out (.int .i64 0) (.int .i64 0) (.string ⟨#[]⟩)
          generalize hW : World.setCell _ _ _ = W3 at h3 ⊢
          have y0 : W3.cell? ⟨w.heap.size, 0, none⟩ = some (.int .i64 0) := (three h3.blk).c0
          have y1 : W3.cell? ⟨w.heap.size, 1, none⟩ = some (.int .i64 0) := (three h3.blk).c1
          have y2 : W3.cell? ⟨w.heap.size, 2, none⟩ = some (.string ⟨#[]⟩) := (three h3.blk).c2
          refine bodyPost_ret (v := .tuple #[.agg #[.int .i64 0, .int .i64 0, .string ⟨#[]⟩], .int .i64 (p : Int)]) (by simp [results, Tryd.results42, go_sem, y0, y1, y2]) rfl ?_
          refine ⟨?_, HM.out.trans h3.mv (fun x hx => .inr (by omega))⟩
          rw [HE.out]
          rfl
      · have HE : Hid (wAt s p = (⟨wkind ((s.take (rowEnd s p)).drop p), p, if wkind ((s.take (rowEnd s p)).drop p) = 3 then (s.take (rowEnd s p)).drop p else []⟩, rowEnd s p)) := by
          show _ = _
          unfold wAt
          rw [HNo.out, if_neg hbad]
        have hge := rowEnd_ge s p
        have hle := rowEnd_le s p (Nat.le_of_lt HPL.out)
        have hlen := HS'.out
        have hq1 : ¬ (rowEnd s p : Int) = (p : Int) := by omega
        have hq2 : ¬ (rowEnd s p : Int) - (p : Int) > 32 := by omega
        have hex : (strOfL s).extract p (rowEnd s p) = strOfL ((s.take (rowEnd s p)).drop p) := ext_str _ _ _
        have hsl : ((s.take (rowEnd s p)).drop p).length ≤ 140737488355328 := by simp; omega
        generalize (s.take (rowEnd s p)).drop p = u at *
        have hq3 : (rowEnd s p : Int) ≤ ((strOfL s).size : Int) := by have := HSZ.out; omega
        generalize rowEnd s p = q at *
        have hq4 : (p : Int) ≤ (q : Int) := by omega
        have HK := hid (fun W (hW : Nu w W) => wordKind_any u W (HG.out.nu hW))
        have HCl := hid (fun W => clone_any u hsl W)
        have HQ := hid hq2
        have hq5 : ¬ (32 : Int) < (q : Int) - (p : Int) := by omega
        have hq6 : ((q : Int) == (p : Int)) = false := by simpa using hq1
        have hq7 : decide ((32 : Int) < (q : Int) - (p : Int)) = false := by simpa using hq5
        clear hbad hlen hq2 HPre HW HN HI HR HZ HRE hps
        go_wp2_with fail
        refine Calls.mono (HK.out wr HM.out) ?_
        rintro e w2 ⟨rfl, hm2⟩
        have HM2 := hid (mv0 HM.out hm2)
        have HRb2 := hid (hm2.heap HRb.out id)
        clear hm2
        go_upto_region 11 with fail
        have hbx := heap_alloc_new w2 (.cells #[.int .i64 (wkind u), .int .i64 (p : Int), .string ⟨#[]⟩] 89)
        have hM3 : Nu w2 (w2.alloc (.cells #[.int .i64 (wkind u), .int .i64 (p : Int), .string ⟨#[]⟩] 89)) := Mv.alloc _ _ _
        generalize hW : World.alloc _ _ = W3 at hbx hM3 ⊢
        clear hW
        have HM3 := hid (mv0 HM2.out hM3)
        have HRb3 := hid (hM3.heap HRb2.out id)
        have HBx := hid hbx
        have hlt0 : w.heap.size < w2.heap.size := lt_of_block HRb2.out
        have hne : w.heap.size ≠ w2.heap.size := by omega
        have hne' : w2.heap.size ≠ w.heap.size := by omega
        have z0 : W3.cell? ⟨w2.heap.size, 0, none⟩ = some (.int .i64 (wkind u)) := by rw [cell_blk hbx]; rfl
        have z1 : W3.cell? ⟨w2.heap.size, 1, none⟩ = some (.int .i64 (p : Int)) := by rw [cell_blk hbx]; rfl
        have z2 : W3.cell? ⟨w2.heap.size, 2, none⟩ = some (.string ⟨#[]⟩) := by rw [cell_blk hbx]; rfl
        have hrb := HRb3.out
        have r0 : W3.cell? ⟨w.heap.size, 0, none⟩ = some (.int .i64 0) := by rw [cell_blk hrb]; rfl
        have r1 : W3.cell? ⟨w.heap.size, 1, none⟩ = some (.int .i64 0) := by rw [cell_blk hrb]; rfl
        have r2 : W3.cell? ⟨w.heap.size, 2, none⟩ = some (.string ⟨#[]⟩) := by rw [cell_blk hrb]; rfl
        have f0 := free_blk hrb 0
        have f1 := free_blk hrb 1
        have f2 := free_blk hrb 2
        clear hrb hbx hM3 HK
        generalize wkind u = kd at *
        by_cases hk3 : kd = 3
        · subst hk3
          clear r0 r1 r2 f0 f1 f2
          go_wp2_with fail
          refine Calls.mono (HCl.out W3) ?_
          rintro e w4 ⟨rfl, hm4⟩
          replace z0 := cell_mv hm4 z0 id
          replace z1 := cell_mv hm4 z1 id
          replace z2 := cell_mv hm4 z2 id
          have hb4 := hm4.heap HBx.out id
          have g2 := free_blk hb4 2
          have hrb := hm4.heap HRb3.out id
          have r0 : w4.cell? ⟨w.heap.size, 0, none⟩ = some (.int .i64 0) := by rw [cell_blk hrb]; rfl
          have r1 : w4.cell? ⟨w.heap.size, 1, none⟩ = some (.int .i64 0) := by rw [cell_blk hrb]; rfl
          have r2 : w4.cell? ⟨w.heap.size, 2, none⟩ = some (.string ⟨#[]⟩) := by rw [cell_blk hrb]; rfl
          have f0 := free_blk hrb 0
          have f1 := free_blk hrb 1
          have f2 := free_blk hrb 2
          have HM4 := hid (mv0 HM3.out hm4)
          have HB4 := hid hb4
          have HR4 := hid hrb
          clear hm4 hb4 hrb
          go_wp2_with fail
          have hmb : Mv (· = w2.heap.size) w4 (w4.setCell ⟨w2.heap.size, 2, none⟩ (.string (strOfL u))) := Mv.setCell w4 ⟨w2.heap.size, 2, none⟩ _
          have HMx := hid (HM4.out.trans hmb (fun x hx => .inr (by omega)))
          generalize w4.setCell ⟨w2.heap.size, 2, none⟩ (.string (strOfL u)) = Wa at hmb HMx ⊢
          have h4 := set3 (hmb.heap HR4.out hne) (.int .i64 3) (.int .i64 (p : Int)) (.string (strOfL u))
          clear hmb
          generalize hW : World.setCell _ _ _ = W4 at h4 ⊢
          have y0 : W4.cell? ⟨w.heap.size, 0, none⟩ = some (.int .i64 3) := (three h4.blk).c0
          have y1 : W4.cell? ⟨w.heap.size, 1, none⟩ = some (.int .i64 (p : Int)) := (three h4.blk).c1
          have y2 : W4.cell? ⟨w.heap.size, 2, none⟩ = some (.string (strOfL u)) := (three h4.blk).c2
          refine bodyPost_ret (v := .tuple #[.agg #[.int .i64 3, .int .i64 (p : Int), .string (strOfL u)], .int .i64 (q : Int)]) (by simp [results, Tryd.results42, go_sem, y0, y1, y2]) rfl ?_
          refine ⟨?_, HMx.out.trans h4.mv (fun x hx => .inr (by omega))⟩
          rw [HE.out]
          simp only [if_true]
          rfl
        · go_wp2_with fail
          have HMx := HM3
          have h4 := set3 HRb3.out (.int .i64 kd) (.int .i64 (p : Int)) (.string ⟨#[]⟩)
          generalize hW : World.setCell _ _ _ = W4 at h4 ⊢
          have y0 : W4.cell? ⟨w.heap.size, 0, none⟩ = some (.int .i64 kd) := (three h4.blk).c0
          have y1 : W4.cell? ⟨w.heap.size, 1, none⟩ = some (.int .i64 (p : Int)) := (three h4.blk).c1
          have y2 : W4.cell? ⟨w.heap.size, 2, none⟩ = some (.string ⟨#[]⟩) := (three h4.blk).c2
          refine bodyPost_ret (v := .tuple #[.agg #[.int .i64 kd, .int .i64 (p : Int), .string ⟨#[]⟩], .int .i64 (q : Int)]) (by simp [results, Tryd.results42, go_sem, y0, y1, y2]) rfl ?_
          refine ⟨?_, HMx.out.trans h4.mv (fun x hx => .inr (by omega))⟩
          rw [HE.out]
          rw [if_neg hk3]
          rfl

end Go.Proofs.YtidihaecgmbhpabDoor
/-
  The program's words and the specification's: the same. Plain laws.
-/
set_option linter.unusedSimpArgs false
namespace Go.Proofs.YtidihaecgmbhpabDoor
open Go.RowKit Q

/-- What a kind stands for. -/
def kcl (k : Int) : Cl :=
  if k = -1 then .lp else if k = -2 then .rp else if k = 1 then .tt else if k = 2 then .ff else if k = 3 then .nm
  else if k = 4 then .u .not else if k = 5 then .u .next else if k = 6 then .u .always else if k = 7 then .u .fin
  else if k = 8 then .b .and else if k = 9 then .b .or else if k = 10 then .b .imp else if k = 11 then .b .iff else if k = 12 then .b .til else if k = 13 then .b .rel else if k = 14 then .b .weak else .no

/-- A word of the program beside one of the specification. -/
structure Wr (x : Wrd) (t : Wd × Nat) : Prop where
  cl : kcl x.k = cls t.1
  at' : x.at' = t.2
  nm : x.nm = if x.k = 3 then t.1 else []
  no : x.k ≠ 0
  bd : -9223372036854775808 ≤ x.k ∧ x.k ≤ 9223372036854775807
  ln : t.1.length ≤ 140737488355328

theorem sgn_perm : ∀ x, x ∈ signs ↔ x ∈ sgnT.map (·.1) := by
  intro x
  simp only [signs, sgnT, List.map_cons, List.map_nil, List.mem_cons, List.not_mem_nil, or_false]
  constructor <;> (rintro (h | h | h | h | h | h | h | h | h | h | h) <;> simp [h])

theorem signs_apart : ∀ x ∈ signs, ∀ y ∈ signs, x.isPrefixOf y = true → x = y := by decide

theorem pre_pre {a b l : Wd} (ha : a <+: l) (hb : b <+: l) : a <+: b ∨ b <+: a := by
  rcases Nat.le_total a.length b.length with h | h
  · exact .inl (List.prefix_of_prefix_length_le ha hb h)
  · exact .inr (List.prefix_of_prefix_length_le hb ha h)

theorem one_sign {l x y : Wd} (hx : x ∈ signs) (hy : y ∈ signs) (h1 : x.isPrefixOf l = true) (h2 : y.isPrefixOf l = true) : x = y := by
  rcases pre_pre (List.isPrefixOf_iff_prefix.1 h1) (List.isPrefixOf_iff_prefix.1 h2) with h | h
  · exact signs_apart x hx y hy (List.isPrefixOf_iff_prefix.2 h)
  · exact (signs_apart y hy x hx (List.isPrefixOf_iff_prefix.2 h)).symm

theorem sgn_of {l : Wd} : sgn l = (sgnT.find? (fun x => x.1.isPrefixOf l)).map (·.1) := by
  cases h : sgnT.find? (fun x => x.1.isPrefixOf l) with
  | none =>
    rw [List.find?_eq_none] at h
    unfold sgn
    rw [Option.map_none, List.find?_eq_none]
    intro x hx
    obtain ⟨y, hy, rfl⟩ := List.mem_map.1 ((sgn_perm x).1 hx)
    exact h y hy
  | some x =>
    have hm := List.mem_of_find?_eq_some h
    have hp : x.1.isPrefixOf l = true := by have := List.find?_some h; exact this
    have hs : x.1 ∈ signs := (sgn_perm _).2 (List.mem_map.2 ⟨x, hm, rfl⟩)
    rw [Option.map_some]
    cases hq : sgn l with
    | none =>
      unfold sgn at hq
      rw [List.find?_eq_none] at hq
      exact absurd hp (hq x.1 hs)
    | some y =>
      obtain ⟨h1, h2⟩ := find_mem hq
      rw [one_sign hs h1 hp h2]

theorem sgn_kind : ∀ x ∈ sgnT, kcl x.2 = cls (canon x.1) ∧ x.2 ≠ 0 ∧ x.2 ≠ 3 ∧ -2 ≤ x.2 ∧ x.2 ≤ 14 := by decide
theorem res_kind : ∀ x ∈ resT, kcl x.2 = cls (canon x.1) ∧ x.2 ≠ 0 ∧ x.2 ≠ 3 ∧ -2 ≤ x.2 ∧ x.2 ≤ 14 := by decide
theorem res_names : ∀ x, x ∈ noNames ↔ x ∈ resT.map (·.1) := by
  intro x
  simp only [noNames, resT, List.map_cons, List.map_nil, List.mem_cons, List.not_mem_nil, or_false]

theorem canon_len (w : Wd) : (canon w).length ≤ w.length := by
  unfold canon
  repeat' split
  all_goals first | (rename_i h; subst h; decide) | exact Nat.le_refl _

/-- A row of letters. -/
theorem wkind_ok {u : Wd} (h1 : 1 ≤ u.length) (h2 : u.length ≤ 32) (h3 : letFirst u = true) (h4 : u.all isLD = true) : kcl (wkind u) = cls (canon u) ∧ wkind u ≠ 0 ∧ (wkind u = 3 → canon u = u) ∧ -2 ≤ wkind u ∧ wkind u ≤ 14 := by
  unfold wkind
  cases hf : resT.find? (fun x => x.1 == u) with
  | some x =>
    have hm := List.mem_of_find?_eq_some hf
    have he : x.1 = u := by have := List.find?_some hf; simpa using this
    obtain ⟨k1, k2, k3, k4, k5⟩ := res_kind x hm
    simp only
    rw [← he]
    exact ⟨k1, k2, fun h => absurd h k3, k4, k5⟩
  | none =>
    have hn : u ∉ noNames := fun hu => by
      rw [res_names] at hu
      obtain ⟨x, hx, he⟩ := List.mem_map.1 hu
      rw [List.find?_eq_none] at hf
      exact hf x hx (by simp [he])
    have hc : canon u = u := by
      have hne : ∀ x : Wd, (x ∈ noNames ∨ x.all isLD = false) → u ≠ x := fun x hx e => by
        rcases hx with hx | hx
        · exact hn (e ▸ hx)
        · rw [← e, h4] at hx; cases hx
      unfold canon
      rw [if_neg (hne _ (by decide)), if_neg (hne _ (by decide)), if_neg (hne _ (by decide)), if_neg (hne _ (by decide)), if_neg (hne _ (by decide)), if_neg (hne _ (by decide)), if_neg (hne _ (by decide)), if_neg (hne _ (by decide))]
    refine ⟨?_, by simp, fun _ => hc, by simp, by simp⟩
    rw [hc, cls_name]
    · rfl
    · unfold isName
      rw [h3, h4]
      simp [h1, h2, hn]

theorem take_drop_tw {q : UInt8 → Bool} {s : Wd} {p : Nat} : (s.take (tw q s p)).drop p = (s.drop p).takeWhile q := by
  unfold tw
  rw [List.drop_take, Nat.add_sub_cancel_left]
  exact (List.prefix_iff_eq_take.1 (List.takeWhile_prefix q)).symm

theorem rowEnd_let {s : Wd} {p : Nat} {c : UInt8} (hc : s[p]? = some c) : (isLet c = true → rowEnd s p = tw isLD s p ∧ p < tw isLD s p) ∧ (isLet c = false → rowEnd s p = p) := by
  have hp : p < s.length := (List.getElem?_eq_some_iff.1 hc).1
  have hd : s.drop p = c :: s.drop (p + 1) := by
    obtain ⟨hp, rfl⟩ := List.getElem?_eq_some_iff.1 hc
    exact List.drop_eq_getElem_cons hp
  have hld : ∀ c : UInt8, isLet c = true → isDig c = false := by
    intro c h
    rw [vLet_int] at h
    rw [vDig_int, Bool.eq_false_iff]
    intro h2
    simp only [Bool.or_eq_true, Bool.and_eq_true, decide_eq_true_eq, beq_iff_eq] at h h2
    omega
  unfold rowEnd
  rw [hc]
  simp only
  refine ⟨fun h => ?_, fun h => ?_⟩
  · rw [hld c h]
    refine ⟨by simp, ?_⟩
    unfold tw
    rw [hd, List.takeWhile_cons, if_pos (by unfold isLD; rw [h]; rfl)]
    simp
  · split
    · rfl
    · rename_i h2
      unfold tw
      rw [hd, List.takeWhile_cons, if_neg (by unfold isLD; simp [h, h2])]
      simp

/-- The word at a place. -/
theorem wAt_one {s : Wd} {p : Nat} (hs : s.length ≤ 140737488355328) (hp : p < s.length) :
    (Q.one (s.drop p) = none ∧ (wAt s p).2 = p) ∨ ∃ w, Q.one (s.drop p) = some w ∧ (wAt s p).2 = p + w.length ∧ 0 < w.length ∧ p + w.length ≤ s.length ∧ Wr (wAt s p).1 (canon w, p) := by
  obtain ⟨c, hc⟩ : ∃ c, s[p]? = some c := ⟨_, List.getElem?_eq_getElem hp⟩
  have hd : s.drop p = c :: s.drop (p + 1) := by
    obtain ⟨hp, rfl⟩ := List.getElem?_eq_some_iff.1 hc
    exact List.drop_eq_getElem_cons hp
  cases hf : sgnT.find? (fun x => x.1.isPrefixOf (s.drop p)) with
  | some x =>
    have hm := List.mem_of_find?_eq_some hf
    obtain ⟨k1, k2, k3, k4, k5⟩ := sgn_kind x hm
    have ho : Q.one (s.drop p) = some x.1 := by unfold Q.one; rw [sgn_of, hf]; rfl
    obtain ⟨o1, o2⟩ := one_pre ho
    have o3 := o1.length_le
    rw [List.length_drop] at o3
    have hw : wAt s p = (⟨x.2, p, []⟩, p + x.1.length) := by unfold wAt; rw [hf]
    right
    refine ⟨x.1, ho, by rw [hw], o2, by omega, ?_⟩
    rw [hw]
    exact ⟨k1, rfl, by rw [if_neg k3], k2, ⟨by simp only; omega, by simp only; omega⟩, by have := canon_len x.1; simp only; omega⟩
  | none =>
    have hso : Q.one (s.drop p) = if isLet c && decide (((s.drop p).takeWhile isLD).length ≤ 32) then some ((s.drop p).takeWhile isLD) else none := by
      unfold Q.one
      rw [sgn_of, hf, hd]
      rfl
    obtain ⟨r1, r2⟩ := rowEnd_let hc
    have hw : wAt s p = if rowEnd s p = p ∨ 32 < rowEnd s p - p then (⟨0, 0, []⟩, p) else
        (⟨wkind ((s.take (rowEnd s p)).drop p), p, if wkind ((s.take (rowEnd s p)).drop p) = 3 then (s.take (rowEnd s p)).drop p else []⟩, rowEnd s p) := by
      unfold wAt; rw [hf]
    cases hl : isLet c with
    | false =>
      left
      rw [if_pos (Or.inl (r2 hl))] at hw
      rw [hso, hl, hw]
      simp
    | true =>
      obtain ⟨e1, e2⟩ := r1 hl
      have htl : ((s.drop p).takeWhile isLD).length = rowEnd s p - p := by rw [e1]; unfold tw; omega
      by_cases h32 : 32 < rowEnd s p - p
      · left
        rw [if_pos (Or.inr h32)] at hw
        rw [hso, hw, htl, decide_eq_false (by omega)]
        simp
      · right
        have ho : Q.one (s.drop p) = some ((s.drop p).takeWhile isLD) := by
          rw [hso, hl, htl, decide_eq_true (by omega)]
          simp
        have hu : (s.take (rowEnd s p)).drop p = (s.drop p).takeWhile isLD := by rw [e1]; exact take_drop_tw
        rw [hw, if_neg (by omega), hu]
        have hle : rowEnd s p ≤ s.length := rowEnd_le s p (by omega)
        refine ⟨_, ho, by simp only; omega, by omega, by omega, ?_⟩
        have hall : ((s.drop p).takeWhile isLD).all isLD = true := by
          exact List.all_takeWhile
        have hfst : letFirst ((s.drop p).takeWhile isLD) = true := by
          rw [hd, List.takeWhile_cons, if_pos (by unfold isLD; rw [hl]; rfl)]
          exact hl
        obtain ⟨k1, k2, k3, k4, k5⟩ := wkind_ok (by omega) (by omega) hfst hall
        refine ⟨k1, rfl, ?_, k2, ⟨by simp only; omega, by simp only; omega⟩, by have := canon_len ((s.drop p).takeWhile isLD); simp only; omega⟩
        simp only
        split
        · rename_i h3
          exact (k3 h3).symm
        · rfl

end Go.Proofs.YtidihaecgmbhpabDoor
