/-
  SLevWalk.
-/
import Derived.Deep.CutRange
import Derived.Deep.QuietTactic
import Derived.Deep.RegionHeld
import Derived.Test.YthmdgbmodgfcmaaGreatDoorL2
/-
  SyntaxLevels: it answers true.
-/
namespace Go.Proofs.YthmdgbmodgfcmaaGreatDoor
open Go.RowKit

theorem lev_cells : ∀ i, i < 18 → (#[.string ⟨#[124, 124]⟩, .string ⟨#[38, 38]⟩, .string ⟨#[124]⟩, .string ⟨#[94]⟩, .string ⟨#[38]⟩, .string ⟨#[61, 61]⟩, .string ⟨#[33, 61]⟩, .string ⟨#[60]⟩, .string ⟨#[60, 61]⟩, .string ⟨#[62]⟩, .string ⟨#[62, 61]⟩, .string ⟨#[60, 60]⟩, .string ⟨#[62, 62]⟩, .string ⟨#[43]⟩, .string ⟨#[45]⟩, .string ⟨#[42]⟩, .string ⟨#[47]⟩, .string ⟨#[37]⟩] : Array Value)[i]? = some (.string (strOfL (opB i))) ∧ (#[.int .i64 1, .int .i64 2, .int .i64 3, .int .i64 4, .int .i64 5, .int .i64 6, .int .i64 6, .int .i64 7, .int .i64 7, .int .i64 7, .int .i64 7, .int .i64 8, .int .i64 8, .int .i64 9, .int .i64 9, .int .i64 10, .int .i64 10, .int .i64 10] : Array Value)[i]? = some (.int .i64 (lvB i : Int))
  | 0, _ => ⟨rfl, rfl⟩
  | 1, _ => ⟨rfl, rfl⟩
  | 2, _ => ⟨rfl, rfl⟩
  | 3, _ => ⟨rfl, rfl⟩
  | 4, _ => ⟨rfl, rfl⟩
  | 5, _ => ⟨rfl, rfl⟩
  | 6, _ => ⟨rfl, rfl⟩
  | 7, _ => ⟨rfl, rfl⟩
  | 8, _ => ⟨rfl, rfl⟩
  | 9, _ => ⟨rfl, rfl⟩
  | 10, _ => ⟨rfl, rfl⟩
  | 11, _ => ⟨rfl, rfl⟩
  | 12, _ => ⟨rfl, rfl⟩
  | 13, _ => ⟨rfl, rfl⟩
  | 14, _ => ⟨rfl, rfl⟩
  | 15, _ => ⟨rfl, rfl⟩
  | 16, _ => ⟨rfl, rfl⟩
  | 17, _ => ⟨rfl, rfl⟩
  | i + 18, h => absurd h (by omega)

theorem op_size : ∀ i, i < 18 → (strOfL (opB i)).size ≤ 2
  | 0, _ => by show _ ≤ 2; decide
  | 1, _ => by show _ ≤ 2; decide
  | 2, _ => by show _ ≤ 2; decide
  | 3, _ => by show _ ≤ 2; decide
  | 4, _ => by show _ ≤ 2; decide
  | 5, _ => by show _ ≤ 2; decide
  | 6, _ => by show _ ≤ 2; decide
  | 7, _ => by show _ ≤ 2; decide
  | 8, _ => by show _ ≤ 2; decide
  | 9, _ => by show _ ≤ 2; decide
  | 10, _ => by show _ ≤ 2; decide
  | 11, _ => by show _ ≤ 2; decide
  | 12, _ => by show _ ≤ 2; decide
  | 13, _ => by show _ ≤ 2; decide
  | 14, _ => by show _ ≤ 2; decide
  | 15, _ => by show _ ≤ 2; decide
  | 16, _ => by show _ ≤ 2; decide
  | 17, _ => by show _ ≤ 2; decide
  | i + 18, h => absurd h (by omega)

theorem lev_some {i k : Nat} (h : levB i k = true) : ∃ e l r, exprV (tE i k) = some (.ok e) ∧ exprV (tL i k) = some (.ok l) ∧ exprV (tR i k) = some (.ok r) ∧ (lvB k > lvB i → e = r ∧ wfA 8 e) ∧ (¬ lvB k > lvB i → e = l ∧ wfA 8 e) := by
  unfold levB at h
  split at h
  · rename_i e l r h1 h2 h3
    refine ⟨e, l, r, h1, h2, h3, fun h4 => ?_, fun h4 => ?_⟩
    · rw [if_pos h4] at h; exact sameB_eq 8 e r h
    · rw [if_neg h4] at h; exact sameB_eq 8 e l h
  · cases h

theorem strOfL_app (a b : List UInt8) : strOfL a ++ strOfL b = strOfL (a ++ b) := by
  show ByteArray.mk _ = ByteArray.mk _
  simp [strOfL]

/-- A text of five parts. -/
theorem lev_is {s : ByteArray} {l : List UInt8} {d : List D} (hs : s = strOfL l) (h : exprV l = some (.ok d)) : ExprIs s d := by
  subst hs
  exact exprIs_of 2000 (by decide) (by rw [show bytesOf (strOfL l) = l from bytesOf_strL l]; exact h)
theorem lev_text {S1 S2 : ByteArray} {x y : List UInt8} (h1 : strOfL x = S1) (h2 : strOfL y = S2) (a b c : List UInt8) : (((strOfL a ++ S1) ++ strOfL b) ++ S2) ++ strOfL c = strOfL (a ++ x ++ b ++ y ++ c) := by
  rw [← h1, ← h2, strOfL_app, strOfL_app, strOfL_app, strOfL_app]

/-- The boxes stay. -/
def Boxed (W : World) (p q : Nat) (e : Value) (ds : List D) : Prop := ∃ v0 v1 v2 v3 v4 v5 v6 v7 v8, e = .agg #[v0, v1, v2, v3, v4, v5, v6, v7, v8] ∧ Cells9 W p 0 v0 v1 v2 v3 v4 v5 v6 v7 v8 ∧ W.cell? ⟨q, 0, none⟩ = some (.int .i64 0) ∧ AIs W e ds
theorem Boxed.mv {W W' : World} {p q : Nat} {e : Value} {ds : List D} (h : Boxed W p q e ds) (hm : Mv (fun _ => False) W W') : Boxed W' p q e ds := by
  obtain ⟨v0, v1, v2, v3, v4, v5, v6, v7, v8, h1, h2, h3, h4⟩ := h
  exact ⟨v0, v1, v2, v3, v4, v5, v6, v7, v8, h1, h2.mv hm, cell_mv hm h3 id, h4.mv hm⟩
theorem After.boxed {W wx : World} {ds : List D} {x y : Value} (h : After W ds x y wx) : ∃ p q e, x = .pointer (some ⟨p, 0, none⟩) ∧ y = .pointer (some ⟨q, 0, none⟩) ∧ Mv (fun _ => False) W wx ∧ Boxed wx p q e ds := by
  obtain ⟨p, q, v0, v1, v2, v3, v4, v5, v6, v7, v8, h1, h2, h3, h4, h5, h6⟩ := h
  exact ⟨p, q, _, h1, h2, h3, v0, v1, v2, v3, v4, v5, v6, v7, v8, rfl, h4, h5, h6⟩

/-- A number made not negative. -/
theorem absd (a : Int) (h1 : -9223372036854775808 ≤ a) (h2 : a ≤ 9223372036854775807) : ∃ (M : Int) (N : Nat), (a < 0 → wrap64 (a + 1) = a + 1) ∧ (a < 0 → wrap64 (-(a + 1)) = M) ∧ (¬ a < 0 → a = M) ∧ M.tmod 18 = (N : Int) ∧ N < 18 := by
  obtain ⟨M, hM⟩ : ∃ M : Int, (if a < 0 then -(a + 1) else a) = M := ⟨_, rfl⟩
  have hM0 : 0 ≤ M := by rw [← hM]; split <;> omega
  have hM1 : M ≤ 9223372036854775807 := by rw [← hM]; split <;> omega
  refine ⟨M, M.toNat % 18, fun h => by unfold wrap64; omega, fun h => by rw [if_pos h] at hM; rw [hM]; unfold wrap64; omega, fun h => by rw [if_neg h] at hM; exact hM, ?_, by omega⟩
  obtain ⟨k, rfl⟩ : ∃ k : Nat, M = (k : Int) := ⟨M.toNat, by omega⟩
  rw [Int.toNat_natCast]; rfl

set_option maxHeartbeats 8000000 in
theorem SyntaxLevels_walk (a b : Int) (ha1 : -9223372036854775808 ≤ a) (ha2 : a ≤ 9223372036854775807) (hb1 : -9223372036854775808 ≤ b) (hb2 : b ≤ 9223372036854775807) (w : World) (hG : G w) (hTN : TN w) :
    Calls Tryz.prog 5 #[.int .i64 a, .int .i64 b] w fun e w' => e = .returned (.bool true) ∧ Mv (fun _ => False) w w' := by
  have HB : Hid (∀ w, G w → TN w → Calls Tryz.prog 7 #[] w fun e w' => e = .returned (.bool true) ∧ Mv (fun _ => False) w w') := fun w h1 h2 => awake_any w h1 h2
  have HG : Hid (G w ∧ TN w) := ⟨hG, hTN⟩
  clear hG hTN
  obtain ⟨A, NA, a1, a2, a3, a4, a5⟩ := absd a ha1 ha2
  obtain ⟨B, NB, b1, b2, b3, b4, b5⟩ := absd b hb1 hb2
  have HA : Hid ((a < 0 → wrap64 (a + 1) = a + 1) ∧ (a < 0 → wrap64 (-(a + 1)) = A) ∧ (¬ a < 0 → a = A)) := ⟨a1, a2, a3⟩
  have HBB : Hid ((b < 0 → wrap64 (b + 1) = b + 1) ∧ (b < 0 → wrap64 (-(b + 1)) = B) ∧ (¬ b < 0 → b = B)) := ⟨b1, b2, b3⟩
  have HA4 : Hid (A.tmod 18 = (NA : Int) ∧ B.tmod 18 = (NB : Int)) := ⟨a4, b4⟩
  have HN : Hid (NA < 18 ∧ NB < 18) := ⟨a5, b5⟩
  obtain ⟨dE, dL, dR, hLv⟩ := lev_some (lev_all NA a5 NB b5)
  have HLv : Hid (exprV (tE NA NB) = some (.ok dE) ∧ exprV (tL NA NB) = some (.ok dL) ∧ exprV (tR NA NB) = some (.ok dR) ∧ (lvB NB > lvB NA → dE = dR ∧ wfA 8 dE) ∧ (¬ lvB NB > lvB NA → dE = dL ∧ wfA 8 dE)) := hLv
  clear hLv
  clear a1 a2 a3 a4 a5 b1 b2 b3 b4 b5 ha1 ha2 hb1 hb2
  go_enter Tryz.func5, Tryz.ntmps5
  go_wp2_with fail
  refine (HB.out _ HG.out.1 HG.out.2).mono ?_
  rintro e w1 ⟨rfl, hm1⟩
  have HM1 : Hid (Mv (fun _ => False) w w1) := hm1
  have HG1 : Hid (G w1 ∧ TN w1) := ⟨HG.out.1.mv hm1 id, HG.out.2.mv hm1 id⟩
  clear hm1 HB HG
  go_upto_region 6 with fail
  obtain ⟨W1, hW1⟩ : ∃ W1, (w1.alloc (.cells #[.string ⟨#[124, 124]⟩, .string ⟨#[38, 38]⟩, .string ⟨#[124]⟩, .string ⟨#[94]⟩, .string ⟨#[38]⟩, .string ⟨#[61, 61]⟩, .string ⟨#[33, 61]⟩, .string ⟨#[60]⟩, .string ⟨#[60, 61]⟩, .string ⟨#[62]⟩, .string ⟨#[62, 61]⟩, .string ⟨#[60, 60]⟩, .string ⟨#[62, 62]⟩, .string ⟨#[43]⟩, .string ⟨#[45]⟩, .string ⟨#[42]⟩, .string ⟨#[47]⟩, .string ⟨#[37]⟩] 9)).alloc (.cells #[.int .i64 1, .int .i64 2, .int .i64 3, .int .i64 4, .int .i64 5, .int .i64 6, .int .i64 6, .int .i64 7, .int .i64 7, .int .i64 7, .int .i64 7, .int .i64 8, .int .i64 8, .int .i64 9, .int .i64 9, .int .i64 10, .int .i64 10, .int .i64 10] 3) = W1 := ⟨_, rfl⟩
  rw [hW1]
  have hB := box_two w1 (.cells #[.string ⟨#[124, 124]⟩, .string ⟨#[38, 38]⟩, .string ⟨#[124]⟩, .string ⟨#[94]⟩, .string ⟨#[38]⟩, .string ⟨#[61, 61]⟩, .string ⟨#[33, 61]⟩, .string ⟨#[60]⟩, .string ⟨#[60, 61]⟩, .string ⟨#[62]⟩, .string ⟨#[62, 61]⟩, .string ⟨#[60, 60]⟩, .string ⟨#[62, 62]⟩, .string ⟨#[43]⟩, .string ⟨#[45]⟩, .string ⟨#[42]⟩, .string ⟨#[47]⟩, .string ⟨#[37]⟩] 9) (.cells #[.int .i64 1, .int .i64 2, .int .i64 3, .int .i64 4, .int .i64 5, .int .i64 6, .int .i64 6, .int .i64 7, .int .i64 7, .int .i64 7, .int .i64 7, .int .i64 8, .int .i64 8, .int .i64 9, .int .i64 9, .int .i64 10, .int .i64 10, .int .i64 10] 3)
  rw [hW1] at hB
  have HW : Hid (Mv (fun _ => False) w W1 ∧ (G W1 ∧ TN W1)) := ⟨mv0 HM1.out hB.1, HG1.out.1.mv hB.1 id, HG1.out.2.mv hB.1 id⟩
  have HO : Hid (∀ i, i < 18 → W1.cell? ⟨w1.heap.size, i, none⟩ = some (.string (strOfL (opB i))) ∧ W1.cell? ⟨w1.heap.size + 1, i, none⟩ = some (.int .i64 (lvB i : Int))) := fun i hi => by
    rw [cell_blk hB.2.1, cell_blk hB.2.2]
    exact lev_cells i hi
  clear hW1 hB HM1 HG1
  go_upto_if 22 with fail
  go_cut [0] from 23 to 25 (fun v0 wx => v0 = .int .i64 A ∧ wx = W1)
  case first =>
    rcases (by omega : a < 0 ∨ 0 ≤ a) with ha | ha
    · have h1 := HA.out.1 ha
      have h2 := HA.out.2.1 ha
      clear HA HBB HN HO HW HA4
      go_wp2_with fail
      go_meet
      exact ⟨by rw [h2], rfl⟩
    · obtain rfl := HA.out.2.2 (by omega)
      have h4 : decide (a < 0) = false := decide_eq_false (by omega)
      clear HA HBB HN HO HW HA4 h4
      go_wp2_with fail
      go_meet
      exact ⟨rfl, rfl⟩
  case rest =>
    obtain ⟨rfl, hwc⟩ := hcut
    rw [hwc]
    clear hwc
    clear HA
    go_upto_if 27 with fail
    go_cut [1] from 28 to 30 (fun v1 wx => v1 = .int .i64 B ∧ wx = W1)
    case first =>
      rcases (by omega : b < 0 ∨ 0 ≤ b) with ha | ha
      · have h1 := HBB.out.1 ha
        have h2 := HBB.out.2.1 ha
        clear HBB HN HO HW HA4
        go_wp2_with fail
        go_meet
        exact ⟨by rw [h2], rfl⟩
      · obtain rfl := HBB.out.2.2 (by omega)
        have h4 : decide (b < 0) = false := decide_eq_false (by omega)
        clear HBB HN HO HW HA4 h4
        go_wp2_with fail
        go_meet
        exact ⟨rfl, rfl⟩
    case rest =>
      obtain ⟨rfl, hwc⟩ := hcut
      rw [hwc]
      clear hwc
      clear HBB
      obtain ⟨a4, b4⟩ := HA4.out
      go_upto_region 12 with fail
      clear a4 b4 HA4
      have c1 := (HO.out NA HN.out.1).1
      have c2 := (HO.out NB HN.out.2).1
      obtain ⟨S1, hS1⟩ : ∃ S1, strOfL (opB NA) = S1 := ⟨_, rfl⟩
      obtain ⟨S2, hS2⟩ : ∃ S2, strOfL (opB NB) = S2 := ⟨_, rfl⟩
      rw [hS1] at c1
      rw [hS2] at c2
      have s1 : S1.size ≤ 2 := by rw [← hS1]; exact op_size NA HN.out.1
      have s2 : S2.size ≤ 2 := by rw [← hS2]; exact op_size NB HN.out.2
      have n1 : (NA : Int) < 18 := by have := HN.out.1; omega
      have n2 : (NB : Int) < 18 := by have := HN.out.2; omega
      have HS : Hid (strOfL (opB NA) = S1 ∧ strOfL (opB NB) = S2) := ⟨hS1, hS2⟩
      clear hS1 hS2
      have HE : Hid (ExprIs ((((⟨#[120, 32]⟩ ++ S1) ++ ⟨#[32, 121, 32]⟩) ++ S2) ++ ⟨#[32, 122]⟩) dE) := lev_is (lev_text HS.out.1 HS.out.2 [120, 32] [32, 121, 32] [32, 122]) HLv.out.1
      have HE2 : Hid (ExprIs ((((⟨#[40, 120, 32]⟩ ++ S1) ++ ⟨#[32, 121, 41, 32]⟩) ++ S2) ++ ⟨#[32, 122]⟩) dL) := lev_is (lev_text HS.out.1 HS.out.2 [40, 120, 32] [32, 121, 41, 32] [32, 122]) HLv.out.2.1
      have HE3 : Hid (ExprIs ((((⟨#[120, 32]⟩ ++ S1) ++ ⟨#[32, 40, 121, 32]⟩) ++ S2) ++ ⟨#[32, 122, 41]⟩) dR) := lev_is (lev_text HS.out.1 HS.out.2 [120, 32] [32, 40, 121, 32] [32, 122, 41]) HLv.out.2.2.1
      go_cut [10, 11] from 39 to 54 (fun v10 v11 wx => Hid (After W1 dE v10 v11 wx))
      case first =>
        refine wp_region_held (S := fun w' => Mv (fun _ => False) W1 w') (by kernel_rfl) ?_
        change wpAnyH _ _ _ _ _ _ _ _ (World.drew _)
        have hS0 : Mv (fun _ => False) W1 (World.drew W1) := Mv.drew _ _
        refine wpAnyH_take (i := 0) (v := .slice (some ⟨w1.heap.size, 0, none⟩) 18 18) rfl (by kernel_rfl) (by kernel_rfl) (by kernel_rfl) (fun _ _ _ h => h) (Or.inl ⟨by rfl, fun w _ => by rfl⟩) hS0 ?_
        try simp only [Act.put]
        refine wpAnyH_take (i := 1) (v := .int .i64 (NA : Int)) rfl (by kernel_rfl) (by kernel_rfl) (by kernel_rfl) (fun _ _ _ h => h) (Or.inl ⟨by rfl, fun w _ => by rfl⟩) hS0 ?_
        try simp only [Act.put]
        refine wpAnyH_take (i := 2) (v := .pointer (some ⟨w1.heap.size, NA, none⟩)) rfl (by kernel_rfl) (by kernel_rfl) (by kernel_rfl) (fun _ _ _ h => h) (Or.inl ⟨by rfl, fun w _ => by go_simp⟩) hS0 ?_
        try simp only [Act.put]
        refine wpAnyH_take (i := 3) (v := .string S1) rfl (by kernel_rfl) (by kernel_rfl) (by kernel_rfl) (fun _ _ _ h => h) (Or.inl ⟨by rfl, fun w hw => by have hc := cell_mv hw c1 id; go_simp⟩) hS0 ?_
        try simp only [Act.put]
        refine wpAnyH_take (i := 6) (v := .slice (some ⟨w1.heap.size, 0, none⟩) 18 18) rfl (by kernel_rfl) (by kernel_rfl) (by kernel_rfl) (fun _ _ _ h => h) (Or.inl ⟨by rfl, fun w _ => by rfl⟩) hS0 ?_
        try simp only [Act.put]
        refine wpAnyH_take (i := 7) (v := .int .i64 (NB : Int)) rfl (by kernel_rfl) (by kernel_rfl) (by kernel_rfl) (fun _ _ _ h => h) (Or.inl ⟨by rfl, fun w _ => by rfl⟩) hS0 ?_
        try simp only [Act.put]
        refine wpAnyH_take (i := 8) (v := .pointer (some ⟨w1.heap.size, NB, none⟩)) rfl (by kernel_rfl) (by kernel_rfl) (by kernel_rfl) (fun _ _ _ h => h) (Or.inl ⟨by rfl, fun w _ => by go_simp⟩) hS0 ?_
        try simp only [Act.put]
        refine wpAnyH_take (i := 9) (v := .string S2) rfl (by kernel_rfl) (by kernel_rfl) (by kernel_rfl) (fun _ _ _ h => h) (Or.inl ⟨by rfl, fun w hw => by have hc := cell_mv hw c2 id; go_simp⟩) hS0 ?_
        try simp only [Act.put]
        refine wpAnyH_take (i := 4) (v := .string (⟨#[120, 32]⟩ ++ S1)) rfl (by kernel_rfl) (by kernel_rfl) (by kernel_rfl) (fun _ _ _ h => h) (Or.inl ⟨by rfl, fun w _ => by go_simp; omega⟩) hS0 ?_
        try simp only [Act.put]
        refine wpAnyH_take (i := 5) (v := .string ((⟨#[120, 32]⟩ ++ S1) ++ ⟨#[32, 121, 32]⟩)) rfl (by kernel_rfl) (by kernel_rfl) (by kernel_rfl) (fun _ _ _ h => h) (Or.inl ⟨by rfl, fun w _ => by go_simp; omega⟩) hS0 ?_
        try simp only [Act.put]
        refine wpAnyH_take (i := 10) (v := .string (((⟨#[120, 32]⟩ ++ S1) ++ ⟨#[32, 121, 32]⟩) ++ S2)) rfl (by kernel_rfl) (by kernel_rfl) (by kernel_rfl) (fun _ _ _ h => h) (Or.inl ⟨by rfl, fun w _ => by go_simp; omega⟩) hS0 ?_
        try simp only [Act.put]
        refine wpAnyH_take (i := 11) (v := .string ((((⟨#[120, 32]⟩ ++ S1) ++ ⟨#[32, 121, 32]⟩) ++ S2) ++ ⟨#[32, 122]⟩)) rfl (by kernel_rfl) (by kernel_rfl) (by kernel_rfl) (fun _ _ _ h => h) (Or.inl ⟨by rfl, fun w _ => by go_simp; omega⟩) hS0 ?_
        try simp only [Act.put]
        refine wpAnyH_ready (rs := [12, 16, 17]) (by kernel_rfl) (by simp) ?_
        refine AllReadyH.cons rfl (fun K' hK => ?_) (AllReadyH.cons rfl (fun K' hK => ?_) (AllReadyH.cons rfl (fun K' hK => ?_) AllReadyH.nil))
        · go_simp
          refine (HE.out _ (gmv HW.out.2 (Mv.drew _ W1)).1 (gmv HW.out.2 (Mv.drew _ W1)).2).mono ?_
          rintro e w2 ⟨n0, n1, s2, s3, o4, o5, o6, o7, o8, l4, l5, l6, l7, l8, q4, q5, q6, q7, q8, rfl, hm2, hds⟩
          refine hK.out _ _ (mv0 (Mv.drew _ W1) hm2) (fun _ => ?_)
          clear hK K'
          try simp only [Act.put]
          refine wpAnyH_take (i := 13) (v := .tuple #[.agg #[.int .i64 n0, .int .i64 n1, .string s2, .string s3, .slice o4 l4 q4, .slice o5 l5 q5, .slice o6 l6 q6, .slice o7 l7 q7, .slice o8 l8 q8], .agg #[.int .i64 0, .int .i64 0]]) rfl (by kernel_rfl) (by kernel_rfl) (by kernel_rfl) (fun _ _ _ h => h) (Or.inl ⟨by rfl, fun w _ => by rfl⟩) (mv0 (Mv.drew _ W1) hm2) ?_
          try simp only [Act.put]
          refine wpAnyH_take (i := 14) (v := .agg #[.int .i64 n0, .int .i64 n1, .string s2, .string s3, .slice o4 l4 q4, .slice o5 l5 q5, .slice o6 l6 q6, .slice o7 l7 q7, .slice o8 l8 q8]) rfl (by kernel_rfl) (by kernel_rfl) (by kernel_rfl) (fun _ _ _ h => h) (Or.inl ⟨by rfl, fun w _ => by rfl⟩) (mv0 (Mv.drew _ W1) hm2) ?_
          try simp only [Act.put]
          refine wpAnyH_take (i := 15) (v := .agg #[.int .i64 0, .int .i64 0]) rfl (by kernel_rfl) (by kernel_rfl) (by kernel_rfl) (fun _ _ _ h => h) (Or.inl ⟨by rfl, fun w _ => by rfl⟩) (mv0 (Mv.drew _ W1) hm2) ?_
          try simp only [Act.put]
          refine wpAnyH_ready (rs := [16, 17]) (by kernel_rfl) (by simp) ?_
          refine AllReadyH.cons rfl (fun K' hK => ?_) (AllReadyH.cons rfl (fun K' hK => ?_) AllReadyH.nil)
          · go_simp
            refine hK.out _ _ (mv0 (mv0 (Mv.drew _ W1) hm2) (Mv.alloc _ _ A0)) (fun _ => ?_)
            clear hK K'
            try simp only [Act.put]
            refine wpAnyH_ready (rs := [17]) (by kernel_rfl) (by simp) ?_
            refine AllReadyH.cons rfl (fun K' hK => ?_) AllReadyH.nil
            · go_simp
              refine hK.out _ _ (mv0 (mv0 (mv0 (Mv.drew _ W1) hm2) (Mv.alloc _ _ A0)) (Mv.alloc _ _ M0)) (fun _ => ?_)
              clear hK K'
              try simp only [Act.put]
              have hR := ready_ceM (W := W1) hm2 hds
              obtain ⟨X, hX⟩ : ∃ X, ((w2.alloc A0).alloc M0) = X := ⟨_, rfl⟩
              rw [hX] at hR ⊢
              clear hX
              have HR : Hid (Ready W1 X w2.heap.size (w2.heap.size + 1) (.int .i64 n0) (.int .i64 n1) (.string s2) (.string s3) (.slice o4 l4 q4) (.slice o5 l5 q5) (.slice o6 l6 q6) (.slice o7 l7 q7) (.slice o8 l8 q8) dE) := hR
              obtain ⟨⟨k0, k1, k2, k3, k4, k5, k6, k7, k8⟩, kf⟩ := facts9 hR.a
              have f0 := kf 0; have f1 := kf 1; have f2 := kf 2; have f3 := kf 3; have f4 := kf 4; have f5 := kf 5; have f6 := kf 6; have f7 := kf 7; have f8 := kf 8
              clear hR kf hm2 hds
              refine wpAnyH_ready (rs := [18]) (by kernel_rfl) (by simp) ?_
              refine AllReadyH.cons rfl (fun K' hK => ?_) AllReadyH.nil
              go_simp
              clear k0 k1 k2 k3 k4 k5 k6 k7 k8 f0 f1 f2 f3 f4 f5 f6 f7 f8
              obtain ⟨Y, hY⟩ : ∃ Y, bxw9 X w2.heap.size (.int .i64 n0) (.int .i64 n1) (.string s2) (.string s3) (.slice o4 l4 q4) (.slice o5 l5 q5) (.slice o6 l6 q6) (.slice o7 l7 q7) (.slice o8 l8 q8) = Y := ⟨_, rfl⟩
              change K' _ (bxw9 X w2.heap.size (.int .i64 n0) (.int .i64 n1) (.string s2) (.string s3) (.slice o4 l4 q4) (.slice o5 l5 q5) (.slice o6 l6 q6) (.slice o7 l7 q7) (.slice o8 l8 q8))
              rw [hY]
              refine hK.out _ _ (by rw [← hY]; exact bxw9_mv _ _ _ _ _ _ _ _ _ HR.out.mv HR.out.hp) (fun _ => ?_)
              clear hK K'
              try simp only [Act.put]
              obtain ⟨k0, k1, f0, f1⟩ := facts2 (show Y.heap[(w2.heap.size + 1)]? = some M0 by rw [← hY]; exact (bxw9_far _ _ _ _ _ _ _ _ _ (Ne.symm HR.out.ne)).trans HR.out.m)
              have HY : Hid (bxw9 X w2.heap.size (.int .i64 n0) (.int .i64 n1) (.string s2) (.string s3) (.slice o4 l4 q4) (.slice o5 l5 q5) (.slice o6 l6 q6) (.slice o7 l7 q7) (.slice o8 l8 q8) = Y) := hY
              clear hY
              refine wpAnyH_ready (rs := [19]) (by kernel_rfl) (by simp) ?_
              refine AllReadyH.cons rfl (fun K' hK => ?_) AllReadyH.nil
              go_simp
              clear k0 k1 f0 f1
              change K' _ (bxw2 Y (w2.heap.size + 1) (.int .i64 0) (.int .i64 0))
              refine hK.out _ _ (bxw2_mv _ _ (by rw [← HY.out]; exact bxw9_mv _ _ _ _ _ _ _ _ _ HR.out.mv HR.out.hp) HR.out.hq) (fun _ => ?_)
              clear hK K'
              try simp only [Act.put]
              refine wpAnyH_done (by kernel_rfl) ?_ _
              go_wp2_with fail
              go_meet
              exact HR.out.after HY.out
          · go_simp
            refine hK.out _ _ (mv0 (mv0 (Mv.drew _ W1) hm2) (Mv.alloc _ _ M0)) (fun _ => ?_)
            clear hK K'
            try simp only [Act.put]
            refine wpAnyH_ready (rs := [16]) (by kernel_rfl) (by simp) ?_
            refine AllReadyH.cons rfl (fun K' hK => ?_) AllReadyH.nil
            · go_simp
              refine hK.out _ _ (mv0 (mv0 (mv0 (Mv.drew _ W1) hm2) (Mv.alloc _ _ M0)) (Mv.alloc _ _ A0)) (fun _ => ?_)
              clear hK K'
              try simp only [Act.put]
              have hR := ready_cMe (W := W1) hm2 hds
              obtain ⟨X, hX⟩ : ∃ X, ((w2.alloc M0).alloc A0) = X := ⟨_, rfl⟩
              rw [hX] at hR ⊢
              clear hX
              have HR : Hid (Ready W1 X (w2.heap.size + 1) w2.heap.size (.int .i64 n0) (.int .i64 n1) (.string s2) (.string s3) (.slice o4 l4 q4) (.slice o5 l5 q5) (.slice o6 l6 q6) (.slice o7 l7 q7) (.slice o8 l8 q8) dE) := hR
              obtain ⟨⟨k0, k1, k2, k3, k4, k5, k6, k7, k8⟩, kf⟩ := facts9 hR.a
              have f0 := kf 0; have f1 := kf 1; have f2 := kf 2; have f3 := kf 3; have f4 := kf 4; have f5 := kf 5; have f6 := kf 6; have f7 := kf 7; have f8 := kf 8
              clear hR kf hm2 hds
              refine wpAnyH_ready (rs := [18]) (by kernel_rfl) (by simp) ?_
              refine AllReadyH.cons rfl (fun K' hK => ?_) AllReadyH.nil
              go_simp
              clear k0 k1 k2 k3 k4 k5 k6 k7 k8 f0 f1 f2 f3 f4 f5 f6 f7 f8
              obtain ⟨Y, hY⟩ : ∃ Y, bxw9 X (w2.heap.size + 1) (.int .i64 n0) (.int .i64 n1) (.string s2) (.string s3) (.slice o4 l4 q4) (.slice o5 l5 q5) (.slice o6 l6 q6) (.slice o7 l7 q7) (.slice o8 l8 q8) = Y := ⟨_, rfl⟩
              change K' _ (bxw9 X (w2.heap.size + 1) (.int .i64 n0) (.int .i64 n1) (.string s2) (.string s3) (.slice o4 l4 q4) (.slice o5 l5 q5) (.slice o6 l6 q6) (.slice o7 l7 q7) (.slice o8 l8 q8))
              rw [hY]
              refine hK.out _ _ (by rw [← hY]; exact bxw9_mv _ _ _ _ _ _ _ _ _ HR.out.mv HR.out.hp) (fun _ => ?_)
              clear hK K'
              try simp only [Act.put]
              obtain ⟨k0, k1, f0, f1⟩ := facts2 (show Y.heap[w2.heap.size]? = some M0 by rw [← hY]; exact (bxw9_far _ _ _ _ _ _ _ _ _ (Ne.symm HR.out.ne)).trans HR.out.m)
              have HY : Hid (bxw9 X (w2.heap.size + 1) (.int .i64 n0) (.int .i64 n1) (.string s2) (.string s3) (.slice o4 l4 q4) (.slice o5 l5 q5) (.slice o6 l6 q6) (.slice o7 l7 q7) (.slice o8 l8 q8) = Y) := hY
              clear hY
              refine wpAnyH_ready (rs := [19]) (by kernel_rfl) (by simp) ?_
              refine AllReadyH.cons rfl (fun K' hK => ?_) AllReadyH.nil
              go_simp
              clear k0 k1 f0 f1
              change K' _ (bxw2 Y w2.heap.size (.int .i64 0) (.int .i64 0))
              refine hK.out _ _ (bxw2_mv _ _ (by rw [← HY.out]; exact bxw9_mv _ _ _ _ _ _ _ _ _ HR.out.mv HR.out.hp) HR.out.hq) (fun _ => ?_)
              clear hK K'
              try simp only [Act.put]
              refine wpAnyH_done (by kernel_rfl) ?_ _
              go_wp2_with fail
              go_meet
              exact HR.out.after HY.out
        · go_simp
          refine hK.out _ _ (mv0 (Mv.alloc _ W1 A0) (Mv.drew _ _)) (fun _ => ?_)
          clear hK K'
          try simp only [Act.put]
          refine wpAnyH_ready (rs := [12, 17]) (by kernel_rfl) (by simp) ?_
          refine AllReadyH.cons rfl (fun K' hK => ?_) (AllReadyH.cons rfl (fun K' hK => ?_) AllReadyH.nil)
          · go_simp
            refine (HE.out _ (gmv HW.out.2 (mv0 (Mv.alloc _ W1 A0) (Mv.drew _ _))).1 (gmv HW.out.2 (mv0 (Mv.alloc _ W1 A0) (Mv.drew _ _))).2).mono ?_
            rintro e w2 ⟨n0, n1, s2, s3, o4, o5, o6, o7, o8, l4, l5, l6, l7, l8, q4, q5, q6, q7, q8, rfl, hm2, hds⟩
            refine hK.out _ _ (mv0 (mv0 (Mv.alloc _ W1 A0) (Mv.drew _ _)) hm2) (fun _ => ?_)
            clear hK K'
            try simp only [Act.put]
            refine wpAnyH_take (i := 13) (v := .tuple #[.agg #[.int .i64 n0, .int .i64 n1, .string s2, .string s3, .slice o4 l4 q4, .slice o5 l5 q5, .slice o6 l6 q6, .slice o7 l7 q7, .slice o8 l8 q8], .agg #[.int .i64 0, .int .i64 0]]) rfl (by kernel_rfl) (by kernel_rfl) (by kernel_rfl) (fun _ _ _ h => h) (Or.inl ⟨by rfl, fun w _ => by rfl⟩) (mv0 (mv0 (Mv.alloc _ W1 A0) (Mv.drew _ _)) hm2) ?_
            try simp only [Act.put]
            refine wpAnyH_take (i := 14) (v := .agg #[.int .i64 n0, .int .i64 n1, .string s2, .string s3, .slice o4 l4 q4, .slice o5 l5 q5, .slice o6 l6 q6, .slice o7 l7 q7, .slice o8 l8 q8]) rfl (by kernel_rfl) (by kernel_rfl) (by kernel_rfl) (fun _ _ _ h => h) (Or.inl ⟨by rfl, fun w _ => by rfl⟩) (mv0 (mv0 (Mv.alloc _ W1 A0) (Mv.drew _ _)) hm2) ?_
            try simp only [Act.put]
            refine wpAnyH_take (i := 15) (v := .agg #[.int .i64 0, .int .i64 0]) rfl (by kernel_rfl) (by kernel_rfl) (by kernel_rfl) (fun _ _ _ h => h) (Or.inl ⟨by rfl, fun w _ => by rfl⟩) (mv0 (mv0 (Mv.alloc _ W1 A0) (Mv.drew _ _)) hm2) ?_
            try simp only [Act.put]
            refine wpAnyH_ready (rs := [17]) (by kernel_rfl) (by simp) ?_
            refine AllReadyH.cons rfl (fun K' hK => ?_) AllReadyH.nil
            · go_simp
              refine hK.out _ _ (mv0 (mv0 (mv0 (Mv.alloc _ W1 A0) (Mv.drew _ _)) hm2) (Mv.alloc _ _ M0)) (fun _ => ?_)
              clear hK K'
              try simp only [Act.put]
              have hR := ready_ecM (W := W1) hm2 hds
              obtain ⟨X, hX⟩ : ∃ X, (w2.alloc M0) = X := ⟨_, rfl⟩
              rw [hX] at hR ⊢
              clear hX
              have HR : Hid (Ready W1 X W1.heap.size w2.heap.size (.int .i64 n0) (.int .i64 n1) (.string s2) (.string s3) (.slice o4 l4 q4) (.slice o5 l5 q5) (.slice o6 l6 q6) (.slice o7 l7 q7) (.slice o8 l8 q8) dE) := hR
              obtain ⟨⟨k0, k1, k2, k3, k4, k5, k6, k7, k8⟩, kf⟩ := facts9 hR.a
              have f0 := kf 0; have f1 := kf 1; have f2 := kf 2; have f3 := kf 3; have f4 := kf 4; have f5 := kf 5; have f6 := kf 6; have f7 := kf 7; have f8 := kf 8
              clear hR kf hm2 hds
              refine wpAnyH_ready (rs := [18]) (by kernel_rfl) (by simp) ?_
              refine AllReadyH.cons rfl (fun K' hK => ?_) AllReadyH.nil
              go_simp
              clear k0 k1 k2 k3 k4 k5 k6 k7 k8 f0 f1 f2 f3 f4 f5 f6 f7 f8
              obtain ⟨Y, hY⟩ : ∃ Y, bxw9 X W1.heap.size (.int .i64 n0) (.int .i64 n1) (.string s2) (.string s3) (.slice o4 l4 q4) (.slice o5 l5 q5) (.slice o6 l6 q6) (.slice o7 l7 q7) (.slice o8 l8 q8) = Y := ⟨_, rfl⟩
              change K' _ (bxw9 X W1.heap.size (.int .i64 n0) (.int .i64 n1) (.string s2) (.string s3) (.slice o4 l4 q4) (.slice o5 l5 q5) (.slice o6 l6 q6) (.slice o7 l7 q7) (.slice o8 l8 q8))
              rw [hY]
              refine hK.out _ _ (by rw [← hY]; exact bxw9_mv _ _ _ _ _ _ _ _ _ HR.out.mv HR.out.hp) (fun _ => ?_)
              clear hK K'
              try simp only [Act.put]
              obtain ⟨k0, k1, f0, f1⟩ := facts2 (show Y.heap[w2.heap.size]? = some M0 by rw [← hY]; exact (bxw9_far _ _ _ _ _ _ _ _ _ (Ne.symm HR.out.ne)).trans HR.out.m)
              have HY : Hid (bxw9 X W1.heap.size (.int .i64 n0) (.int .i64 n1) (.string s2) (.string s3) (.slice o4 l4 q4) (.slice o5 l5 q5) (.slice o6 l6 q6) (.slice o7 l7 q7) (.slice o8 l8 q8) = Y) := hY
              clear hY
              refine wpAnyH_ready (rs := [19]) (by kernel_rfl) (by simp) ?_
              refine AllReadyH.cons rfl (fun K' hK => ?_) AllReadyH.nil
              go_simp
              clear k0 k1 f0 f1
              change K' _ (bxw2 Y w2.heap.size (.int .i64 0) (.int .i64 0))
              refine hK.out _ _ (bxw2_mv _ _ (by rw [← HY.out]; exact bxw9_mv _ _ _ _ _ _ _ _ _ HR.out.mv HR.out.hp) HR.out.hq) (fun _ => ?_)
              clear hK K'
              try simp only [Act.put]
              refine wpAnyH_done (by kernel_rfl) ?_ _
              go_wp2_with fail
              go_meet
              exact HR.out.after HY.out
          · go_simp
            refine hK.out _ _ (mv0 (mv0 (Mv.alloc _ W1 A0) (Mv.alloc _ _ M0)) (Mv.drew _ _)) (fun _ => ?_)
            clear hK K'
            try simp only [Act.put]
            refine wpAnyH_ready (rs := [12]) (by kernel_rfl) (by simp) ?_
            refine AllReadyH.cons rfl (fun K' hK => ?_) AllReadyH.nil
            · go_simp
              refine (HE.out _ (gmv HW.out.2 (mv0 (mv0 (Mv.alloc _ W1 A0) (Mv.alloc _ _ M0)) (Mv.drew _ _))).1 (gmv HW.out.2 (mv0 (mv0 (Mv.alloc _ W1 A0) (Mv.alloc _ _ M0)) (Mv.drew _ _))).2).mono ?_
              rintro e w2 ⟨n0, n1, s2, s3, o4, o5, o6, o7, o8, l4, l5, l6, l7, l8, q4, q5, q6, q7, q8, rfl, hm2, hds⟩
              refine hK.out _ _ (mv0 (mv0 (mv0 (Mv.alloc _ W1 A0) (Mv.alloc _ _ M0)) (Mv.drew _ _)) hm2) (fun _ => ?_)
              clear hK K'
              try simp only [Act.put]
              refine wpAnyH_take (i := 13) (v := .tuple #[.agg #[.int .i64 n0, .int .i64 n1, .string s2, .string s3, .slice o4 l4 q4, .slice o5 l5 q5, .slice o6 l6 q6, .slice o7 l7 q7, .slice o8 l8 q8], .agg #[.int .i64 0, .int .i64 0]]) rfl (by kernel_rfl) (by kernel_rfl) (by kernel_rfl) (fun _ _ _ h => h) (Or.inl ⟨by rfl, fun w _ => by rfl⟩) (mv0 (mv0 (mv0 (Mv.alloc _ W1 A0) (Mv.alloc _ _ M0)) (Mv.drew _ _)) hm2) ?_
              try simp only [Act.put]
              refine wpAnyH_take (i := 14) (v := .agg #[.int .i64 n0, .int .i64 n1, .string s2, .string s3, .slice o4 l4 q4, .slice o5 l5 q5, .slice o6 l6 q6, .slice o7 l7 q7, .slice o8 l8 q8]) rfl (by kernel_rfl) (by kernel_rfl) (by kernel_rfl) (fun _ _ _ h => h) (Or.inl ⟨by rfl, fun w _ => by rfl⟩) (mv0 (mv0 (mv0 (Mv.alloc _ W1 A0) (Mv.alloc _ _ M0)) (Mv.drew _ _)) hm2) ?_
              try simp only [Act.put]
              refine wpAnyH_take (i := 15) (v := .agg #[.int .i64 0, .int .i64 0]) rfl (by kernel_rfl) (by kernel_rfl) (by kernel_rfl) (fun _ _ _ h => h) (Or.inl ⟨by rfl, fun w _ => by rfl⟩) (mv0 (mv0 (mv0 (Mv.alloc _ W1 A0) (Mv.alloc _ _ M0)) (Mv.drew _ _)) hm2) ?_
              try simp only [Act.put]
              have hR := ready_eMc (W := W1) hm2 hds
              have HR : Hid (Ready W1 w2 W1.heap.size (W1.heap.size + 1) (.int .i64 n0) (.int .i64 n1) (.string s2) (.string s3) (.slice o4 l4 q4) (.slice o5 l5 q5) (.slice o6 l6 q6) (.slice o7 l7 q7) (.slice o8 l8 q8) dE) := hR
              obtain ⟨⟨k0, k1, k2, k3, k4, k5, k6, k7, k8⟩, kf⟩ := facts9 hR.a
              have f0 := kf 0; have f1 := kf 1; have f2 := kf 2; have f3 := kf 3; have f4 := kf 4; have f5 := kf 5; have f6 := kf 6; have f7 := kf 7; have f8 := kf 8
              clear hR kf hm2 hds
              refine wpAnyH_ready (rs := [18]) (by kernel_rfl) (by simp) ?_
              refine AllReadyH.cons rfl (fun K' hK => ?_) AllReadyH.nil
              go_simp
              clear k0 k1 k2 k3 k4 k5 k6 k7 k8 f0 f1 f2 f3 f4 f5 f6 f7 f8
              obtain ⟨Y, hY⟩ : ∃ Y, bxw9 w2 W1.heap.size (.int .i64 n0) (.int .i64 n1) (.string s2) (.string s3) (.slice o4 l4 q4) (.slice o5 l5 q5) (.slice o6 l6 q6) (.slice o7 l7 q7) (.slice o8 l8 q8) = Y := ⟨_, rfl⟩
              change K' _ (bxw9 w2 W1.heap.size (.int .i64 n0) (.int .i64 n1) (.string s2) (.string s3) (.slice o4 l4 q4) (.slice o5 l5 q5) (.slice o6 l6 q6) (.slice o7 l7 q7) (.slice o8 l8 q8))
              rw [hY]
              refine hK.out _ _ (by rw [← hY]; exact bxw9_mv _ _ _ _ _ _ _ _ _ HR.out.mv HR.out.hp) (fun _ => ?_)
              clear hK K'
              try simp only [Act.put]
              obtain ⟨k0, k1, f0, f1⟩ := facts2 (show Y.heap[(W1.heap.size + 1)]? = some M0 by rw [← hY]; exact (bxw9_far _ _ _ _ _ _ _ _ _ (Ne.symm HR.out.ne)).trans HR.out.m)
              have HY : Hid (bxw9 w2 W1.heap.size (.int .i64 n0) (.int .i64 n1) (.string s2) (.string s3) (.slice o4 l4 q4) (.slice o5 l5 q5) (.slice o6 l6 q6) (.slice o7 l7 q7) (.slice o8 l8 q8) = Y) := hY
              clear hY
              refine wpAnyH_ready (rs := [19]) (by kernel_rfl) (by simp) ?_
              refine AllReadyH.cons rfl (fun K' hK => ?_) AllReadyH.nil
              go_simp
              clear k0 k1 f0 f1
              change K' _ (bxw2 Y (W1.heap.size + 1) (.int .i64 0) (.int .i64 0))
              refine hK.out _ _ (bxw2_mv _ _ (by rw [← HY.out]; exact bxw9_mv _ _ _ _ _ _ _ _ _ HR.out.mv HR.out.hp) HR.out.hq) (fun _ => ?_)
              clear hK K'
              try simp only [Act.put]
              refine wpAnyH_done (by kernel_rfl) ?_ _
              go_wp2_with fail
              go_meet
              exact HR.out.after HY.out
        · go_simp
          refine hK.out _ _ (mv0 (Mv.alloc _ W1 M0) (Mv.drew _ _)) (fun _ => ?_)
          clear hK K'
          try simp only [Act.put]
          refine wpAnyH_ready (rs := [12, 16]) (by kernel_rfl) (by simp) ?_
          refine AllReadyH.cons rfl (fun K' hK => ?_) (AllReadyH.cons rfl (fun K' hK => ?_) AllReadyH.nil)
          · go_simp
            refine (HE.out _ (gmv HW.out.2 (mv0 (Mv.alloc _ W1 M0) (Mv.drew _ _))).1 (gmv HW.out.2 (mv0 (Mv.alloc _ W1 M0) (Mv.drew _ _))).2).mono ?_
            rintro e w2 ⟨n0, n1, s2, s3, o4, o5, o6, o7, o8, l4, l5, l6, l7, l8, q4, q5, q6, q7, q8, rfl, hm2, hds⟩
            refine hK.out _ _ (mv0 (mv0 (Mv.alloc _ W1 M0) (Mv.drew _ _)) hm2) (fun _ => ?_)
            clear hK K'
            try simp only [Act.put]
            refine wpAnyH_take (i := 13) (v := .tuple #[.agg #[.int .i64 n0, .int .i64 n1, .string s2, .string s3, .slice o4 l4 q4, .slice o5 l5 q5, .slice o6 l6 q6, .slice o7 l7 q7, .slice o8 l8 q8], .agg #[.int .i64 0, .int .i64 0]]) rfl (by kernel_rfl) (by kernel_rfl) (by kernel_rfl) (fun _ _ _ h => h) (Or.inl ⟨by rfl, fun w _ => by rfl⟩) (mv0 (mv0 (Mv.alloc _ W1 M0) (Mv.drew _ _)) hm2) ?_
            try simp only [Act.put]
            refine wpAnyH_take (i := 14) (v := .agg #[.int .i64 n0, .int .i64 n1, .string s2, .string s3, .slice o4 l4 q4, .slice o5 l5 q5, .slice o6 l6 q6, .slice o7 l7 q7, .slice o8 l8 q8]) rfl (by kernel_rfl) (by kernel_rfl) (by kernel_rfl) (fun _ _ _ h => h) (Or.inl ⟨by rfl, fun w _ => by rfl⟩) (mv0 (mv0 (Mv.alloc _ W1 M0) (Mv.drew _ _)) hm2) ?_
            try simp only [Act.put]
            refine wpAnyH_take (i := 15) (v := .agg #[.int .i64 0, .int .i64 0]) rfl (by kernel_rfl) (by kernel_rfl) (by kernel_rfl) (fun _ _ _ h => h) (Or.inl ⟨by rfl, fun w _ => by rfl⟩) (mv0 (mv0 (Mv.alloc _ W1 M0) (Mv.drew _ _)) hm2) ?_
            try simp only [Act.put]
            refine wpAnyH_ready (rs := [16]) (by kernel_rfl) (by simp) ?_
            refine AllReadyH.cons rfl (fun K' hK => ?_) AllReadyH.nil
            · go_simp
              refine hK.out _ _ (mv0 (mv0 (mv0 (Mv.alloc _ W1 M0) (Mv.drew _ _)) hm2) (Mv.alloc _ _ A0)) (fun _ => ?_)
              clear hK K'
              try simp only [Act.put]
              have hR := ready_Mce (W := W1) hm2 hds
              obtain ⟨X, hX⟩ : ∃ X, (w2.alloc A0) = X := ⟨_, rfl⟩
              rw [hX] at hR ⊢
              clear hX
              have HR : Hid (Ready W1 X w2.heap.size W1.heap.size (.int .i64 n0) (.int .i64 n1) (.string s2) (.string s3) (.slice o4 l4 q4) (.slice o5 l5 q5) (.slice o6 l6 q6) (.slice o7 l7 q7) (.slice o8 l8 q8) dE) := hR
              obtain ⟨⟨k0, k1, k2, k3, k4, k5, k6, k7, k8⟩, kf⟩ := facts9 hR.a
              have f0 := kf 0; have f1 := kf 1; have f2 := kf 2; have f3 := kf 3; have f4 := kf 4; have f5 := kf 5; have f6 := kf 6; have f7 := kf 7; have f8 := kf 8
              clear hR kf hm2 hds
              refine wpAnyH_ready (rs := [18]) (by kernel_rfl) (by simp) ?_
              refine AllReadyH.cons rfl (fun K' hK => ?_) AllReadyH.nil
              go_simp
              clear k0 k1 k2 k3 k4 k5 k6 k7 k8 f0 f1 f2 f3 f4 f5 f6 f7 f8
              obtain ⟨Y, hY⟩ : ∃ Y, bxw9 X w2.heap.size (.int .i64 n0) (.int .i64 n1) (.string s2) (.string s3) (.slice o4 l4 q4) (.slice o5 l5 q5) (.slice o6 l6 q6) (.slice o7 l7 q7) (.slice o8 l8 q8) = Y := ⟨_, rfl⟩
              change K' _ (bxw9 X w2.heap.size (.int .i64 n0) (.int .i64 n1) (.string s2) (.string s3) (.slice o4 l4 q4) (.slice o5 l5 q5) (.slice o6 l6 q6) (.slice o7 l7 q7) (.slice o8 l8 q8))
              rw [hY]
              refine hK.out _ _ (by rw [← hY]; exact bxw9_mv _ _ _ _ _ _ _ _ _ HR.out.mv HR.out.hp) (fun _ => ?_)
              clear hK K'
              try simp only [Act.put]
              obtain ⟨k0, k1, f0, f1⟩ := facts2 (show Y.heap[W1.heap.size]? = some M0 by rw [← hY]; exact (bxw9_far _ _ _ _ _ _ _ _ _ (Ne.symm HR.out.ne)).trans HR.out.m)
              have HY : Hid (bxw9 X w2.heap.size (.int .i64 n0) (.int .i64 n1) (.string s2) (.string s3) (.slice o4 l4 q4) (.slice o5 l5 q5) (.slice o6 l6 q6) (.slice o7 l7 q7) (.slice o8 l8 q8) = Y) := hY
              clear hY
              refine wpAnyH_ready (rs := [19]) (by kernel_rfl) (by simp) ?_
              refine AllReadyH.cons rfl (fun K' hK => ?_) AllReadyH.nil
              go_simp
              clear k0 k1 f0 f1
              change K' _ (bxw2 Y W1.heap.size (.int .i64 0) (.int .i64 0))
              refine hK.out _ _ (bxw2_mv _ _ (by rw [← HY.out]; exact bxw9_mv _ _ _ _ _ _ _ _ _ HR.out.mv HR.out.hp) HR.out.hq) (fun _ => ?_)
              clear hK K'
              try simp only [Act.put]
              refine wpAnyH_done (by kernel_rfl) ?_ _
              go_wp2_with fail
              go_meet
              exact HR.out.after HY.out
          · go_simp
            refine hK.out _ _ (mv0 (mv0 (Mv.alloc _ W1 M0) (Mv.alloc _ _ A0)) (Mv.drew _ _)) (fun _ => ?_)
            clear hK K'
            try simp only [Act.put]
            refine wpAnyH_ready (rs := [12]) (by kernel_rfl) (by simp) ?_
            refine AllReadyH.cons rfl (fun K' hK => ?_) AllReadyH.nil
            · go_simp
              refine (HE.out _ (gmv HW.out.2 (mv0 (mv0 (Mv.alloc _ W1 M0) (Mv.alloc _ _ A0)) (Mv.drew _ _))).1 (gmv HW.out.2 (mv0 (mv0 (Mv.alloc _ W1 M0) (Mv.alloc _ _ A0)) (Mv.drew _ _))).2).mono ?_
              rintro e w2 ⟨n0, n1, s2, s3, o4, o5, o6, o7, o8, l4, l5, l6, l7, l8, q4, q5, q6, q7, q8, rfl, hm2, hds⟩
              refine hK.out _ _ (mv0 (mv0 (mv0 (Mv.alloc _ W1 M0) (Mv.alloc _ _ A0)) (Mv.drew _ _)) hm2) (fun _ => ?_)
              clear hK K'
              try simp only [Act.put]
              refine wpAnyH_take (i := 13) (v := .tuple #[.agg #[.int .i64 n0, .int .i64 n1, .string s2, .string s3, .slice o4 l4 q4, .slice o5 l5 q5, .slice o6 l6 q6, .slice o7 l7 q7, .slice o8 l8 q8], .agg #[.int .i64 0, .int .i64 0]]) rfl (by kernel_rfl) (by kernel_rfl) (by kernel_rfl) (fun _ _ _ h => h) (Or.inl ⟨by rfl, fun w _ => by rfl⟩) (mv0 (mv0 (mv0 (Mv.alloc _ W1 M0) (Mv.alloc _ _ A0)) (Mv.drew _ _)) hm2) ?_
              try simp only [Act.put]
              refine wpAnyH_take (i := 14) (v := .agg #[.int .i64 n0, .int .i64 n1, .string s2, .string s3, .slice o4 l4 q4, .slice o5 l5 q5, .slice o6 l6 q6, .slice o7 l7 q7, .slice o8 l8 q8]) rfl (by kernel_rfl) (by kernel_rfl) (by kernel_rfl) (fun _ _ _ h => h) (Or.inl ⟨by rfl, fun w _ => by rfl⟩) (mv0 (mv0 (mv0 (Mv.alloc _ W1 M0) (Mv.alloc _ _ A0)) (Mv.drew _ _)) hm2) ?_
              try simp only [Act.put]
              refine wpAnyH_take (i := 15) (v := .agg #[.int .i64 0, .int .i64 0]) rfl (by kernel_rfl) (by kernel_rfl) (by kernel_rfl) (fun _ _ _ h => h) (Or.inl ⟨by rfl, fun w _ => by rfl⟩) (mv0 (mv0 (mv0 (Mv.alloc _ W1 M0) (Mv.alloc _ _ A0)) (Mv.drew _ _)) hm2) ?_
              try simp only [Act.put]
              have hR := ready_Mec (W := W1) hm2 hds
              have HR : Hid (Ready W1 w2 (W1.heap.size + 1) W1.heap.size (.int .i64 n0) (.int .i64 n1) (.string s2) (.string s3) (.slice o4 l4 q4) (.slice o5 l5 q5) (.slice o6 l6 q6) (.slice o7 l7 q7) (.slice o8 l8 q8) dE) := hR
              obtain ⟨⟨k0, k1, k2, k3, k4, k5, k6, k7, k8⟩, kf⟩ := facts9 hR.a
              have f0 := kf 0; have f1 := kf 1; have f2 := kf 2; have f3 := kf 3; have f4 := kf 4; have f5 := kf 5; have f6 := kf 6; have f7 := kf 7; have f8 := kf 8
              clear hR kf hm2 hds
              refine wpAnyH_ready (rs := [18]) (by kernel_rfl) (by simp) ?_
              refine AllReadyH.cons rfl (fun K' hK => ?_) AllReadyH.nil
              go_simp
              clear k0 k1 k2 k3 k4 k5 k6 k7 k8 f0 f1 f2 f3 f4 f5 f6 f7 f8
              obtain ⟨Y, hY⟩ : ∃ Y, bxw9 w2 (W1.heap.size + 1) (.int .i64 n0) (.int .i64 n1) (.string s2) (.string s3) (.slice o4 l4 q4) (.slice o5 l5 q5) (.slice o6 l6 q6) (.slice o7 l7 q7) (.slice o8 l8 q8) = Y := ⟨_, rfl⟩
              change K' _ (bxw9 w2 (W1.heap.size + 1) (.int .i64 n0) (.int .i64 n1) (.string s2) (.string s3) (.slice o4 l4 q4) (.slice o5 l5 q5) (.slice o6 l6 q6) (.slice o7 l7 q7) (.slice o8 l8 q8))
              rw [hY]
              refine hK.out _ _ (by rw [← hY]; exact bxw9_mv _ _ _ _ _ _ _ _ _ HR.out.mv HR.out.hp) (fun _ => ?_)
              clear hK K'
              try simp only [Act.put]
              obtain ⟨k0, k1, f0, f1⟩ := facts2 (show Y.heap[W1.heap.size]? = some M0 by rw [← hY]; exact (bxw9_far _ _ _ _ _ _ _ _ _ (Ne.symm HR.out.ne)).trans HR.out.m)
              have HY : Hid (bxw9 w2 (W1.heap.size + 1) (.int .i64 n0) (.int .i64 n1) (.string s2) (.string s3) (.slice o4 l4 q4) (.slice o5 l5 q5) (.slice o6 l6 q6) (.slice o7 l7 q7) (.slice o8 l8 q8) = Y) := hY
              clear hY
              refine wpAnyH_ready (rs := [19]) (by kernel_rfl) (by simp) ?_
              refine AllReadyH.cons rfl (fun K' hK => ?_) AllReadyH.nil
              go_simp
              clear k0 k1 f0 f1
              change K' _ (bxw2 Y W1.heap.size (.int .i64 0) (.int .i64 0))
              refine hK.out _ _ (bxw2_mv _ _ (by rw [← HY.out]; exact bxw9_mv _ _ _ _ _ _ _ _ _ HR.out.mv HR.out.hp) HR.out.hq) (fun _ => ?_)
              clear hK K'
              try simp only [Act.put]
              refine wpAnyH_done (by kernel_rfl) ?_ _
              go_wp2_with fail
              go_meet
              exact HR.out.after HY.out
      case rest =>
      obtain ⟨pe, qe, ve, rfl, rfl, hm2, hb⟩ := hcut.out.boxed
      clear hcut HE
      replace c1 := cell_mv hm2 c1 id
      replace c2 := cell_mv hm2 c2 id
      have HW2 : Hid (Mv (fun _ => False) w wc ∧ (G wc ∧ TN wc)) := ⟨mv0 HW.out.1 hm2, gmv HW.out.2 hm2⟩
      have HL2 : Hid (∀ i, i < 18 → wc.cell? ⟨w1.heap.size + 1, i, none⟩ = some (.int .i64 (lvB i : Int))) := fun i hi => cell_mv hm2 (HO.out i hi).2 id
      have HBe : Hid (Boxed wc pe qe ve dE) := hb
      clear hb hm2 HO HW
      obtain ⟨W2, hW2⟩ : ∃ W2, wc = W2 := ⟨_, rfl⟩
      rw [hW2] at c1 c2 HW2 HL2 HBe ⊢
      clear hW2
      have HW : Hid (Mv (fun _ => False) w W2 ∧ (G W2 ∧ TN W2)) := HW2.out
      clear HW2
      go_upto_region 13 with fail
      go_cut [12, 13] from 55 to 70 (fun v12 v13 wx => Hid (After W2 dL v12 v13 wx))
      case first =>
        clear HBe HL2
        refine wp_region_held (S := fun w' => Mv (fun _ => False) W2 w') (by kernel_rfl) ?_
        change wpAnyH _ _ _ _ _ _ _ _ (World.drew _)
        have hS0 : Mv (fun _ => False) W2 (World.drew W2) := Mv.drew _ _
        refine wpAnyH_take (i := 0) (v := .slice (some ⟨w1.heap.size, 0, none⟩) 18 18) rfl (by kernel_rfl) (by kernel_rfl) (by kernel_rfl) (fun _ _ _ h => h) (Or.inl ⟨by rfl, fun w _ => by rfl⟩) hS0 ?_
        try simp only [Act.put]
        refine wpAnyH_take (i := 1) (v := .int .i64 (NA : Int)) rfl (by kernel_rfl) (by kernel_rfl) (by kernel_rfl) (fun _ _ _ h => h) (Or.inl ⟨by rfl, fun w _ => by rfl⟩) hS0 ?_
        try simp only [Act.put]
        refine wpAnyH_take (i := 2) (v := .pointer (some ⟨w1.heap.size, NA, none⟩)) rfl (by kernel_rfl) (by kernel_rfl) (by kernel_rfl) (fun _ _ _ h => h) (Or.inl ⟨by rfl, fun w _ => by go_simp⟩) hS0 ?_
        try simp only [Act.put]
        refine wpAnyH_take (i := 3) (v := .string S1) rfl (by kernel_rfl) (by kernel_rfl) (by kernel_rfl) (fun _ _ _ h => h) (Or.inl ⟨by rfl, fun w hw => by have hc := cell_mv hw c1 id; go_simp⟩) hS0 ?_
        try simp only [Act.put]
        refine wpAnyH_take (i := 6) (v := .slice (some ⟨w1.heap.size, 0, none⟩) 18 18) rfl (by kernel_rfl) (by kernel_rfl) (by kernel_rfl) (fun _ _ _ h => h) (Or.inl ⟨by rfl, fun w _ => by rfl⟩) hS0 ?_
        try simp only [Act.put]
        refine wpAnyH_take (i := 7) (v := .int .i64 (NB : Int)) rfl (by kernel_rfl) (by kernel_rfl) (by kernel_rfl) (fun _ _ _ h => h) (Or.inl ⟨by rfl, fun w _ => by rfl⟩) hS0 ?_
        try simp only [Act.put]
        refine wpAnyH_take (i := 8) (v := .pointer (some ⟨w1.heap.size, NB, none⟩)) rfl (by kernel_rfl) (by kernel_rfl) (by kernel_rfl) (fun _ _ _ h => h) (Or.inl ⟨by rfl, fun w _ => by go_simp⟩) hS0 ?_
        try simp only [Act.put]
        refine wpAnyH_take (i := 9) (v := .string S2) rfl (by kernel_rfl) (by kernel_rfl) (by kernel_rfl) (fun _ _ _ h => h) (Or.inl ⟨by rfl, fun w hw => by have hc := cell_mv hw c2 id; go_simp⟩) hS0 ?_
        try simp only [Act.put]
        refine wpAnyH_take (i := 4) (v := .string (⟨#[40, 120, 32]⟩ ++ S1)) rfl (by kernel_rfl) (by kernel_rfl) (by kernel_rfl) (fun _ _ _ h => h) (Or.inl ⟨by rfl, fun w _ => by go_simp; omega⟩) hS0 ?_
        try simp only [Act.put]
        refine wpAnyH_take (i := 5) (v := .string ((⟨#[40, 120, 32]⟩ ++ S1) ++ ⟨#[32, 121, 41, 32]⟩)) rfl (by kernel_rfl) (by kernel_rfl) (by kernel_rfl) (fun _ _ _ h => h) (Or.inl ⟨by rfl, fun w _ => by go_simp; omega⟩) hS0 ?_
        try simp only [Act.put]
        refine wpAnyH_take (i := 10) (v := .string (((⟨#[40, 120, 32]⟩ ++ S1) ++ ⟨#[32, 121, 41, 32]⟩) ++ S2)) rfl (by kernel_rfl) (by kernel_rfl) (by kernel_rfl) (fun _ _ _ h => h) (Or.inl ⟨by rfl, fun w _ => by go_simp; omega⟩) hS0 ?_
        try simp only [Act.put]
        refine wpAnyH_take (i := 11) (v := .string ((((⟨#[40, 120, 32]⟩ ++ S1) ++ ⟨#[32, 121, 41, 32]⟩) ++ S2) ++ ⟨#[32, 122]⟩)) rfl (by kernel_rfl) (by kernel_rfl) (by kernel_rfl) (fun _ _ _ h => h) (Or.inl ⟨by rfl, fun w _ => by go_simp; omega⟩) hS0 ?_
        try simp only [Act.put]
        refine wpAnyH_ready (rs := [12, 16, 17]) (by kernel_rfl) (by simp) ?_
        refine AllReadyH.cons rfl (fun K' hK => ?_) (AllReadyH.cons rfl (fun K' hK => ?_) (AllReadyH.cons rfl (fun K' hK => ?_) AllReadyH.nil))
        · go_simp
          refine (HE2.out _ (gmv HW.out.2 (Mv.drew _ W2)).1 (gmv HW.out.2 (Mv.drew _ W2)).2).mono ?_
          rintro e w2 ⟨n0, n1, s2, s3, o4, o5, o6, o7, o8, l4, l5, l6, l7, l8, q4, q5, q6, q7, q8, rfl, hm2, hds⟩
          refine hK.out _ _ (mv0 (Mv.drew _ W2) hm2) (fun _ => ?_)
          clear hK K'
          try simp only [Act.put]
          refine wpAnyH_take (i := 13) (v := .tuple #[.agg #[.int .i64 n0, .int .i64 n1, .string s2, .string s3, .slice o4 l4 q4, .slice o5 l5 q5, .slice o6 l6 q6, .slice o7 l7 q7, .slice o8 l8 q8], .agg #[.int .i64 0, .int .i64 0]]) rfl (by kernel_rfl) (by kernel_rfl) (by kernel_rfl) (fun _ _ _ h => h) (Or.inl ⟨by rfl, fun w _ => by rfl⟩) (mv0 (Mv.drew _ W2) hm2) ?_
          try simp only [Act.put]
          refine wpAnyH_take (i := 14) (v := .agg #[.int .i64 n0, .int .i64 n1, .string s2, .string s3, .slice o4 l4 q4, .slice o5 l5 q5, .slice o6 l6 q6, .slice o7 l7 q7, .slice o8 l8 q8]) rfl (by kernel_rfl) (by kernel_rfl) (by kernel_rfl) (fun _ _ _ h => h) (Or.inl ⟨by rfl, fun w _ => by rfl⟩) (mv0 (Mv.drew _ W2) hm2) ?_
          try simp only [Act.put]
          refine wpAnyH_take (i := 15) (v := .agg #[.int .i64 0, .int .i64 0]) rfl (by kernel_rfl) (by kernel_rfl) (by kernel_rfl) (fun _ _ _ h => h) (Or.inl ⟨by rfl, fun w _ => by rfl⟩) (mv0 (Mv.drew _ W2) hm2) ?_
          try simp only [Act.put]
          refine wpAnyH_ready (rs := [16, 17]) (by kernel_rfl) (by simp) ?_
          refine AllReadyH.cons rfl (fun K' hK => ?_) (AllReadyH.cons rfl (fun K' hK => ?_) AllReadyH.nil)
          · go_simp
            refine hK.out _ _ (mv0 (mv0 (Mv.drew _ W2) hm2) (Mv.alloc _ _ A0)) (fun _ => ?_)
            clear hK K'
            try simp only [Act.put]
            refine wpAnyH_ready (rs := [17]) (by kernel_rfl) (by simp) ?_
            refine AllReadyH.cons rfl (fun K' hK => ?_) AllReadyH.nil
            · go_simp
              refine hK.out _ _ (mv0 (mv0 (mv0 (Mv.drew _ W2) hm2) (Mv.alloc _ _ A0)) (Mv.alloc _ _ M0)) (fun _ => ?_)
              clear hK K'
              try simp only [Act.put]
              have hR := ready_ceM (W := W2) hm2 hds
              obtain ⟨X, hX⟩ : ∃ X, ((w2.alloc A0).alloc M0) = X := ⟨_, rfl⟩
              rw [hX] at hR ⊢
              clear hX
              have HR : Hid (Ready W2 X w2.heap.size (w2.heap.size + 1) (.int .i64 n0) (.int .i64 n1) (.string s2) (.string s3) (.slice o4 l4 q4) (.slice o5 l5 q5) (.slice o6 l6 q6) (.slice o7 l7 q7) (.slice o8 l8 q8) dL) := hR
              obtain ⟨⟨k0, k1, k2, k3, k4, k5, k6, k7, k8⟩, kf⟩ := facts9 hR.a
              have f0 := kf 0; have f1 := kf 1; have f2 := kf 2; have f3 := kf 3; have f4 := kf 4; have f5 := kf 5; have f6 := kf 6; have f7 := kf 7; have f8 := kf 8
              clear hR kf hm2 hds
              refine wpAnyH_ready (rs := [18]) (by kernel_rfl) (by simp) ?_
              refine AllReadyH.cons rfl (fun K' hK => ?_) AllReadyH.nil
              go_simp
              clear k0 k1 k2 k3 k4 k5 k6 k7 k8 f0 f1 f2 f3 f4 f5 f6 f7 f8
              obtain ⟨Y, hY⟩ : ∃ Y, bxw9 X w2.heap.size (.int .i64 n0) (.int .i64 n1) (.string s2) (.string s3) (.slice o4 l4 q4) (.slice o5 l5 q5) (.slice o6 l6 q6) (.slice o7 l7 q7) (.slice o8 l8 q8) = Y := ⟨_, rfl⟩
              change K' _ (bxw9 X w2.heap.size (.int .i64 n0) (.int .i64 n1) (.string s2) (.string s3) (.slice o4 l4 q4) (.slice o5 l5 q5) (.slice o6 l6 q6) (.slice o7 l7 q7) (.slice o8 l8 q8))
              rw [hY]
              refine hK.out _ _ (by rw [← hY]; exact bxw9_mv _ _ _ _ _ _ _ _ _ HR.out.mv HR.out.hp) (fun _ => ?_)
              clear hK K'
              try simp only [Act.put]
              obtain ⟨k0, k1, f0, f1⟩ := facts2 (show Y.heap[(w2.heap.size + 1)]? = some M0 by rw [← hY]; exact (bxw9_far _ _ _ _ _ _ _ _ _ (Ne.symm HR.out.ne)).trans HR.out.m)
              have HY : Hid (bxw9 X w2.heap.size (.int .i64 n0) (.int .i64 n1) (.string s2) (.string s3) (.slice o4 l4 q4) (.slice o5 l5 q5) (.slice o6 l6 q6) (.slice o7 l7 q7) (.slice o8 l8 q8) = Y) := hY
              clear hY
              refine wpAnyH_ready (rs := [19]) (by kernel_rfl) (by simp) ?_
              refine AllReadyH.cons rfl (fun K' hK => ?_) AllReadyH.nil
              go_simp
              clear k0 k1 f0 f1
              change K' _ (bxw2 Y (w2.heap.size + 1) (.int .i64 0) (.int .i64 0))
              refine hK.out _ _ (bxw2_mv _ _ (by rw [← HY.out]; exact bxw9_mv _ _ _ _ _ _ _ _ _ HR.out.mv HR.out.hp) HR.out.hq) (fun _ => ?_)
              clear hK K'
              try simp only [Act.put]
              refine wpAnyH_done (by kernel_rfl) ?_ _
              go_wp2_with fail
              go_meet
              exact HR.out.after HY.out
          · go_simp
            refine hK.out _ _ (mv0 (mv0 (Mv.drew _ W2) hm2) (Mv.alloc _ _ M0)) (fun _ => ?_)
            clear hK K'
            try simp only [Act.put]
            refine wpAnyH_ready (rs := [16]) (by kernel_rfl) (by simp) ?_
            refine AllReadyH.cons rfl (fun K' hK => ?_) AllReadyH.nil
            · go_simp
              refine hK.out _ _ (mv0 (mv0 (mv0 (Mv.drew _ W2) hm2) (Mv.alloc _ _ M0)) (Mv.alloc _ _ A0)) (fun _ => ?_)
              clear hK K'
              try simp only [Act.put]
              have hR := ready_cMe (W := W2) hm2 hds
              obtain ⟨X, hX⟩ : ∃ X, ((w2.alloc M0).alloc A0) = X := ⟨_, rfl⟩
              rw [hX] at hR ⊢
              clear hX
              have HR : Hid (Ready W2 X (w2.heap.size + 1) w2.heap.size (.int .i64 n0) (.int .i64 n1) (.string s2) (.string s3) (.slice o4 l4 q4) (.slice o5 l5 q5) (.slice o6 l6 q6) (.slice o7 l7 q7) (.slice o8 l8 q8) dL) := hR
              obtain ⟨⟨k0, k1, k2, k3, k4, k5, k6, k7, k8⟩, kf⟩ := facts9 hR.a
              have f0 := kf 0; have f1 := kf 1; have f2 := kf 2; have f3 := kf 3; have f4 := kf 4; have f5 := kf 5; have f6 := kf 6; have f7 := kf 7; have f8 := kf 8
              clear hR kf hm2 hds
              refine wpAnyH_ready (rs := [18]) (by kernel_rfl) (by simp) ?_
              refine AllReadyH.cons rfl (fun K' hK => ?_) AllReadyH.nil
              go_simp
              clear k0 k1 k2 k3 k4 k5 k6 k7 k8 f0 f1 f2 f3 f4 f5 f6 f7 f8
              obtain ⟨Y, hY⟩ : ∃ Y, bxw9 X (w2.heap.size + 1) (.int .i64 n0) (.int .i64 n1) (.string s2) (.string s3) (.slice o4 l4 q4) (.slice o5 l5 q5) (.slice o6 l6 q6) (.slice o7 l7 q7) (.slice o8 l8 q8) = Y := ⟨_, rfl⟩
              change K' _ (bxw9 X (w2.heap.size + 1) (.int .i64 n0) (.int .i64 n1) (.string s2) (.string s3) (.slice o4 l4 q4) (.slice o5 l5 q5) (.slice o6 l6 q6) (.slice o7 l7 q7) (.slice o8 l8 q8))
              rw [hY]
              refine hK.out _ _ (by rw [← hY]; exact bxw9_mv _ _ _ _ _ _ _ _ _ HR.out.mv HR.out.hp) (fun _ => ?_)
              clear hK K'
              try simp only [Act.put]
              obtain ⟨k0, k1, f0, f1⟩ := facts2 (show Y.heap[w2.heap.size]? = some M0 by rw [← hY]; exact (bxw9_far _ _ _ _ _ _ _ _ _ (Ne.symm HR.out.ne)).trans HR.out.m)
              have HY : Hid (bxw9 X (w2.heap.size + 1) (.int .i64 n0) (.int .i64 n1) (.string s2) (.string s3) (.slice o4 l4 q4) (.slice o5 l5 q5) (.slice o6 l6 q6) (.slice o7 l7 q7) (.slice o8 l8 q8) = Y) := hY
              clear hY
              refine wpAnyH_ready (rs := [19]) (by kernel_rfl) (by simp) ?_
              refine AllReadyH.cons rfl (fun K' hK => ?_) AllReadyH.nil
              go_simp
              clear k0 k1 f0 f1
              change K' _ (bxw2 Y w2.heap.size (.int .i64 0) (.int .i64 0))
              refine hK.out _ _ (bxw2_mv _ _ (by rw [← HY.out]; exact bxw9_mv _ _ _ _ _ _ _ _ _ HR.out.mv HR.out.hp) HR.out.hq) (fun _ => ?_)
              clear hK K'
              try simp only [Act.put]
              refine wpAnyH_done (by kernel_rfl) ?_ _
              go_wp2_with fail
              go_meet
              exact HR.out.after HY.out
        · go_simp
          refine hK.out _ _ (mv0 (Mv.alloc _ W2 A0) (Mv.drew _ _)) (fun _ => ?_)
          clear hK K'
          try simp only [Act.put]
          refine wpAnyH_ready (rs := [12, 17]) (by kernel_rfl) (by simp) ?_
          refine AllReadyH.cons rfl (fun K' hK => ?_) (AllReadyH.cons rfl (fun K' hK => ?_) AllReadyH.nil)
          · go_simp
            refine (HE2.out _ (gmv HW.out.2 (mv0 (Mv.alloc _ W2 A0) (Mv.drew _ _))).1 (gmv HW.out.2 (mv0 (Mv.alloc _ W2 A0) (Mv.drew _ _))).2).mono ?_
            rintro e w2 ⟨n0, n1, s2, s3, o4, o5, o6, o7, o8, l4, l5, l6, l7, l8, q4, q5, q6, q7, q8, rfl, hm2, hds⟩
            refine hK.out _ _ (mv0 (mv0 (Mv.alloc _ W2 A0) (Mv.drew _ _)) hm2) (fun _ => ?_)
            clear hK K'
            try simp only [Act.put]
            refine wpAnyH_take (i := 13) (v := .tuple #[.agg #[.int .i64 n0, .int .i64 n1, .string s2, .string s3, .slice o4 l4 q4, .slice o5 l5 q5, .slice o6 l6 q6, .slice o7 l7 q7, .slice o8 l8 q8], .agg #[.int .i64 0, .int .i64 0]]) rfl (by kernel_rfl) (by kernel_rfl) (by kernel_rfl) (fun _ _ _ h => h) (Or.inl ⟨by rfl, fun w _ => by rfl⟩) (mv0 (mv0 (Mv.alloc _ W2 A0) (Mv.drew _ _)) hm2) ?_
            try simp only [Act.put]
            refine wpAnyH_take (i := 14) (v := .agg #[.int .i64 n0, .int .i64 n1, .string s2, .string s3, .slice o4 l4 q4, .slice o5 l5 q5, .slice o6 l6 q6, .slice o7 l7 q7, .slice o8 l8 q8]) rfl (by kernel_rfl) (by kernel_rfl) (by kernel_rfl) (fun _ _ _ h => h) (Or.inl ⟨by rfl, fun w _ => by rfl⟩) (mv0 (mv0 (Mv.alloc _ W2 A0) (Mv.drew _ _)) hm2) ?_
            try simp only [Act.put]
            refine wpAnyH_take (i := 15) (v := .agg #[.int .i64 0, .int .i64 0]) rfl (by kernel_rfl) (by kernel_rfl) (by kernel_rfl) (fun _ _ _ h => h) (Or.inl ⟨by rfl, fun w _ => by rfl⟩) (mv0 (mv0 (Mv.alloc _ W2 A0) (Mv.drew _ _)) hm2) ?_
            try simp only [Act.put]
            refine wpAnyH_ready (rs := [17]) (by kernel_rfl) (by simp) ?_
            refine AllReadyH.cons rfl (fun K' hK => ?_) AllReadyH.nil
            · go_simp
              refine hK.out _ _ (mv0 (mv0 (mv0 (Mv.alloc _ W2 A0) (Mv.drew _ _)) hm2) (Mv.alloc _ _ M0)) (fun _ => ?_)
              clear hK K'
              try simp only [Act.put]
              have hR := ready_ecM (W := W2) hm2 hds
              obtain ⟨X, hX⟩ : ∃ X, (w2.alloc M0) = X := ⟨_, rfl⟩
              rw [hX] at hR ⊢
              clear hX
              have HR : Hid (Ready W2 X W2.heap.size w2.heap.size (.int .i64 n0) (.int .i64 n1) (.string s2) (.string s3) (.slice o4 l4 q4) (.slice o5 l5 q5) (.slice o6 l6 q6) (.slice o7 l7 q7) (.slice o8 l8 q8) dL) := hR
              obtain ⟨⟨k0, k1, k2, k3, k4, k5, k6, k7, k8⟩, kf⟩ := facts9 hR.a
              have f0 := kf 0; have f1 := kf 1; have f2 := kf 2; have f3 := kf 3; have f4 := kf 4; have f5 := kf 5; have f6 := kf 6; have f7 := kf 7; have f8 := kf 8
              clear hR kf hm2 hds
              refine wpAnyH_ready (rs := [18]) (by kernel_rfl) (by simp) ?_
              refine AllReadyH.cons rfl (fun K' hK => ?_) AllReadyH.nil
              go_simp
              clear k0 k1 k2 k3 k4 k5 k6 k7 k8 f0 f1 f2 f3 f4 f5 f6 f7 f8
              obtain ⟨Y, hY⟩ : ∃ Y, bxw9 X W2.heap.size (.int .i64 n0) (.int .i64 n1) (.string s2) (.string s3) (.slice o4 l4 q4) (.slice o5 l5 q5) (.slice o6 l6 q6) (.slice o7 l7 q7) (.slice o8 l8 q8) = Y := ⟨_, rfl⟩
              change K' _ (bxw9 X W2.heap.size (.int .i64 n0) (.int .i64 n1) (.string s2) (.string s3) (.slice o4 l4 q4) (.slice o5 l5 q5) (.slice o6 l6 q6) (.slice o7 l7 q7) (.slice o8 l8 q8))
              rw [hY]
              refine hK.out _ _ (by rw [← hY]; exact bxw9_mv _ _ _ _ _ _ _ _ _ HR.out.mv HR.out.hp) (fun _ => ?_)
              clear hK K'
              try simp only [Act.put]
              obtain ⟨k0, k1, f0, f1⟩ := facts2 (show Y.heap[w2.heap.size]? = some M0 by rw [← hY]; exact (bxw9_far _ _ _ _ _ _ _ _ _ (Ne.symm HR.out.ne)).trans HR.out.m)
              have HY : Hid (bxw9 X W2.heap.size (.int .i64 n0) (.int .i64 n1) (.string s2) (.string s3) (.slice o4 l4 q4) (.slice o5 l5 q5) (.slice o6 l6 q6) (.slice o7 l7 q7) (.slice o8 l8 q8) = Y) := hY
              clear hY
              refine wpAnyH_ready (rs := [19]) (by kernel_rfl) (by simp) ?_
              refine AllReadyH.cons rfl (fun K' hK => ?_) AllReadyH.nil
              go_simp
              clear k0 k1 f0 f1
              change K' _ (bxw2 Y w2.heap.size (.int .i64 0) (.int .i64 0))
              refine hK.out _ _ (bxw2_mv _ _ (by rw [← HY.out]; exact bxw9_mv _ _ _ _ _ _ _ _ _ HR.out.mv HR.out.hp) HR.out.hq) (fun _ => ?_)
              clear hK K'
              try simp only [Act.put]
              refine wpAnyH_done (by kernel_rfl) ?_ _
              go_wp2_with fail
              go_meet
              exact HR.out.after HY.out
          · go_simp
            refine hK.out _ _ (mv0 (mv0 (Mv.alloc _ W2 A0) (Mv.alloc _ _ M0)) (Mv.drew _ _)) (fun _ => ?_)
            clear hK K'
            try simp only [Act.put]
            refine wpAnyH_ready (rs := [12]) (by kernel_rfl) (by simp) ?_
            refine AllReadyH.cons rfl (fun K' hK => ?_) AllReadyH.nil
            · go_simp
              refine (HE2.out _ (gmv HW.out.2 (mv0 (mv0 (Mv.alloc _ W2 A0) (Mv.alloc _ _ M0)) (Mv.drew _ _))).1 (gmv HW.out.2 (mv0 (mv0 (Mv.alloc _ W2 A0) (Mv.alloc _ _ M0)) (Mv.drew _ _))).2).mono ?_
              rintro e w2 ⟨n0, n1, s2, s3, o4, o5, o6, o7, o8, l4, l5, l6, l7, l8, q4, q5, q6, q7, q8, rfl, hm2, hds⟩
              refine hK.out _ _ (mv0 (mv0 (mv0 (Mv.alloc _ W2 A0) (Mv.alloc _ _ M0)) (Mv.drew _ _)) hm2) (fun _ => ?_)
              clear hK K'
              try simp only [Act.put]
              refine wpAnyH_take (i := 13) (v := .tuple #[.agg #[.int .i64 n0, .int .i64 n1, .string s2, .string s3, .slice o4 l4 q4, .slice o5 l5 q5, .slice o6 l6 q6, .slice o7 l7 q7, .slice o8 l8 q8], .agg #[.int .i64 0, .int .i64 0]]) rfl (by kernel_rfl) (by kernel_rfl) (by kernel_rfl) (fun _ _ _ h => h) (Or.inl ⟨by rfl, fun w _ => by rfl⟩) (mv0 (mv0 (mv0 (Mv.alloc _ W2 A0) (Mv.alloc _ _ M0)) (Mv.drew _ _)) hm2) ?_
              try simp only [Act.put]
              refine wpAnyH_take (i := 14) (v := .agg #[.int .i64 n0, .int .i64 n1, .string s2, .string s3, .slice o4 l4 q4, .slice o5 l5 q5, .slice o6 l6 q6, .slice o7 l7 q7, .slice o8 l8 q8]) rfl (by kernel_rfl) (by kernel_rfl) (by kernel_rfl) (fun _ _ _ h => h) (Or.inl ⟨by rfl, fun w _ => by rfl⟩) (mv0 (mv0 (mv0 (Mv.alloc _ W2 A0) (Mv.alloc _ _ M0)) (Mv.drew _ _)) hm2) ?_
              try simp only [Act.put]
              refine wpAnyH_take (i := 15) (v := .agg #[.int .i64 0, .int .i64 0]) rfl (by kernel_rfl) (by kernel_rfl) (by kernel_rfl) (fun _ _ _ h => h) (Or.inl ⟨by rfl, fun w _ => by rfl⟩) (mv0 (mv0 (mv0 (Mv.alloc _ W2 A0) (Mv.alloc _ _ M0)) (Mv.drew _ _)) hm2) ?_
              try simp only [Act.put]
              have hR := ready_eMc (W := W2) hm2 hds
              have HR : Hid (Ready W2 w2 W2.heap.size (W2.heap.size + 1) (.int .i64 n0) (.int .i64 n1) (.string s2) (.string s3) (.slice o4 l4 q4) (.slice o5 l5 q5) (.slice o6 l6 q6) (.slice o7 l7 q7) (.slice o8 l8 q8) dL) := hR
              obtain ⟨⟨k0, k1, k2, k3, k4, k5, k6, k7, k8⟩, kf⟩ := facts9 hR.a
              have f0 := kf 0; have f1 := kf 1; have f2 := kf 2; have f3 := kf 3; have f4 := kf 4; have f5 := kf 5; have f6 := kf 6; have f7 := kf 7; have f8 := kf 8
              clear hR kf hm2 hds
              refine wpAnyH_ready (rs := [18]) (by kernel_rfl) (by simp) ?_
              refine AllReadyH.cons rfl (fun K' hK => ?_) AllReadyH.nil
              go_simp
              clear k0 k1 k2 k3 k4 k5 k6 k7 k8 f0 f1 f2 f3 f4 f5 f6 f7 f8
              obtain ⟨Y, hY⟩ : ∃ Y, bxw9 w2 W2.heap.size (.int .i64 n0) (.int .i64 n1) (.string s2) (.string s3) (.slice o4 l4 q4) (.slice o5 l5 q5) (.slice o6 l6 q6) (.slice o7 l7 q7) (.slice o8 l8 q8) = Y := ⟨_, rfl⟩
              change K' _ (bxw9 w2 W2.heap.size (.int .i64 n0) (.int .i64 n1) (.string s2) (.string s3) (.slice o4 l4 q4) (.slice o5 l5 q5) (.slice o6 l6 q6) (.slice o7 l7 q7) (.slice o8 l8 q8))
              rw [hY]
              refine hK.out _ _ (by rw [← hY]; exact bxw9_mv _ _ _ _ _ _ _ _ _ HR.out.mv HR.out.hp) (fun _ => ?_)
              clear hK K'
              try simp only [Act.put]
              obtain ⟨k0, k1, f0, f1⟩ := facts2 (show Y.heap[(W2.heap.size + 1)]? = some M0 by rw [← hY]; exact (bxw9_far _ _ _ _ _ _ _ _ _ (Ne.symm HR.out.ne)).trans HR.out.m)
              have HY : Hid (bxw9 w2 W2.heap.size (.int .i64 n0) (.int .i64 n1) (.string s2) (.string s3) (.slice o4 l4 q4) (.slice o5 l5 q5) (.slice o6 l6 q6) (.slice o7 l7 q7) (.slice o8 l8 q8) = Y) := hY
              clear hY
              refine wpAnyH_ready (rs := [19]) (by kernel_rfl) (by simp) ?_
              refine AllReadyH.cons rfl (fun K' hK => ?_) AllReadyH.nil
              go_simp
              clear k0 k1 f0 f1
              change K' _ (bxw2 Y (W2.heap.size + 1) (.int .i64 0) (.int .i64 0))
              refine hK.out _ _ (bxw2_mv _ _ (by rw [← HY.out]; exact bxw9_mv _ _ _ _ _ _ _ _ _ HR.out.mv HR.out.hp) HR.out.hq) (fun _ => ?_)
              clear hK K'
              try simp only [Act.put]
              refine wpAnyH_done (by kernel_rfl) ?_ _
              go_wp2_with fail
              go_meet
              exact HR.out.after HY.out
        · go_simp
          refine hK.out _ _ (mv0 (Mv.alloc _ W2 M0) (Mv.drew _ _)) (fun _ => ?_)
          clear hK K'
          try simp only [Act.put]
          refine wpAnyH_ready (rs := [12, 16]) (by kernel_rfl) (by simp) ?_
          refine AllReadyH.cons rfl (fun K' hK => ?_) (AllReadyH.cons rfl (fun K' hK => ?_) AllReadyH.nil)
          · go_simp
            refine (HE2.out _ (gmv HW.out.2 (mv0 (Mv.alloc _ W2 M0) (Mv.drew _ _))).1 (gmv HW.out.2 (mv0 (Mv.alloc _ W2 M0) (Mv.drew _ _))).2).mono ?_
            rintro e w2 ⟨n0, n1, s2, s3, o4, o5, o6, o7, o8, l4, l5, l6, l7, l8, q4, q5, q6, q7, q8, rfl, hm2, hds⟩
            refine hK.out _ _ (mv0 (mv0 (Mv.alloc _ W2 M0) (Mv.drew _ _)) hm2) (fun _ => ?_)
            clear hK K'
            try simp only [Act.put]
            refine wpAnyH_take (i := 13) (v := .tuple #[.agg #[.int .i64 n0, .int .i64 n1, .string s2, .string s3, .slice o4 l4 q4, .slice o5 l5 q5, .slice o6 l6 q6, .slice o7 l7 q7, .slice o8 l8 q8], .agg #[.int .i64 0, .int .i64 0]]) rfl (by kernel_rfl) (by kernel_rfl) (by kernel_rfl) (fun _ _ _ h => h) (Or.inl ⟨by rfl, fun w _ => by rfl⟩) (mv0 (mv0 (Mv.alloc _ W2 M0) (Mv.drew _ _)) hm2) ?_
            try simp only [Act.put]
            refine wpAnyH_take (i := 14) (v := .agg #[.int .i64 n0, .int .i64 n1, .string s2, .string s3, .slice o4 l4 q4, .slice o5 l5 q5, .slice o6 l6 q6, .slice o7 l7 q7, .slice o8 l8 q8]) rfl (by kernel_rfl) (by kernel_rfl) (by kernel_rfl) (fun _ _ _ h => h) (Or.inl ⟨by rfl, fun w _ => by rfl⟩) (mv0 (mv0 (Mv.alloc _ W2 M0) (Mv.drew _ _)) hm2) ?_
            try simp only [Act.put]
            refine wpAnyH_take (i := 15) (v := .agg #[.int .i64 0, .int .i64 0]) rfl (by kernel_rfl) (by kernel_rfl) (by kernel_rfl) (fun _ _ _ h => h) (Or.inl ⟨by rfl, fun w _ => by rfl⟩) (mv0 (mv0 (Mv.alloc _ W2 M0) (Mv.drew _ _)) hm2) ?_
            try simp only [Act.put]
            refine wpAnyH_ready (rs := [16]) (by kernel_rfl) (by simp) ?_
            refine AllReadyH.cons rfl (fun K' hK => ?_) AllReadyH.nil
            · go_simp
              refine hK.out _ _ (mv0 (mv0 (mv0 (Mv.alloc _ W2 M0) (Mv.drew _ _)) hm2) (Mv.alloc _ _ A0)) (fun _ => ?_)
              clear hK K'
              try simp only [Act.put]
              have hR := ready_Mce (W := W2) hm2 hds
              obtain ⟨X, hX⟩ : ∃ X, (w2.alloc A0) = X := ⟨_, rfl⟩
              rw [hX] at hR ⊢
              clear hX
              have HR : Hid (Ready W2 X w2.heap.size W2.heap.size (.int .i64 n0) (.int .i64 n1) (.string s2) (.string s3) (.slice o4 l4 q4) (.slice o5 l5 q5) (.slice o6 l6 q6) (.slice o7 l7 q7) (.slice o8 l8 q8) dL) := hR
              obtain ⟨⟨k0, k1, k2, k3, k4, k5, k6, k7, k8⟩, kf⟩ := facts9 hR.a
              have f0 := kf 0; have f1 := kf 1; have f2 := kf 2; have f3 := kf 3; have f4 := kf 4; have f5 := kf 5; have f6 := kf 6; have f7 := kf 7; have f8 := kf 8
              clear hR kf hm2 hds
              refine wpAnyH_ready (rs := [18]) (by kernel_rfl) (by simp) ?_
              refine AllReadyH.cons rfl (fun K' hK => ?_) AllReadyH.nil
              go_simp
              clear k0 k1 k2 k3 k4 k5 k6 k7 k8 f0 f1 f2 f3 f4 f5 f6 f7 f8
              obtain ⟨Y, hY⟩ : ∃ Y, bxw9 X w2.heap.size (.int .i64 n0) (.int .i64 n1) (.string s2) (.string s3) (.slice o4 l4 q4) (.slice o5 l5 q5) (.slice o6 l6 q6) (.slice o7 l7 q7) (.slice o8 l8 q8) = Y := ⟨_, rfl⟩
              change K' _ (bxw9 X w2.heap.size (.int .i64 n0) (.int .i64 n1) (.string s2) (.string s3) (.slice o4 l4 q4) (.slice o5 l5 q5) (.slice o6 l6 q6) (.slice o7 l7 q7) (.slice o8 l8 q8))
              rw [hY]
              refine hK.out _ _ (by rw [← hY]; exact bxw9_mv _ _ _ _ _ _ _ _ _ HR.out.mv HR.out.hp) (fun _ => ?_)
              clear hK K'
              try simp only [Act.put]
              obtain ⟨k0, k1, f0, f1⟩ := facts2 (show Y.heap[W2.heap.size]? = some M0 by rw [← hY]; exact (bxw9_far _ _ _ _ _ _ _ _ _ (Ne.symm HR.out.ne)).trans HR.out.m)
              have HY : Hid (bxw9 X w2.heap.size (.int .i64 n0) (.int .i64 n1) (.string s2) (.string s3) (.slice o4 l4 q4) (.slice o5 l5 q5) (.slice o6 l6 q6) (.slice o7 l7 q7) (.slice o8 l8 q8) = Y) := hY
              clear hY
              refine wpAnyH_ready (rs := [19]) (by kernel_rfl) (by simp) ?_
              refine AllReadyH.cons rfl (fun K' hK => ?_) AllReadyH.nil
              go_simp
              clear k0 k1 f0 f1
              change K' _ (bxw2 Y W2.heap.size (.int .i64 0) (.int .i64 0))
              refine hK.out _ _ (bxw2_mv _ _ (by rw [← HY.out]; exact bxw9_mv _ _ _ _ _ _ _ _ _ HR.out.mv HR.out.hp) HR.out.hq) (fun _ => ?_)
              clear hK K'
              try simp only [Act.put]
              refine wpAnyH_done (by kernel_rfl) ?_ _
              go_wp2_with fail
              go_meet
              exact HR.out.after HY.out
          · go_simp
            refine hK.out _ _ (mv0 (mv0 (Mv.alloc _ W2 M0) (Mv.alloc _ _ A0)) (Mv.drew _ _)) (fun _ => ?_)
            clear hK K'
            try simp only [Act.put]
            refine wpAnyH_ready (rs := [12]) (by kernel_rfl) (by simp) ?_
            refine AllReadyH.cons rfl (fun K' hK => ?_) AllReadyH.nil
            · go_simp
              refine (HE2.out _ (gmv HW.out.2 (mv0 (mv0 (Mv.alloc _ W2 M0) (Mv.alloc _ _ A0)) (Mv.drew _ _))).1 (gmv HW.out.2 (mv0 (mv0 (Mv.alloc _ W2 M0) (Mv.alloc _ _ A0)) (Mv.drew _ _))).2).mono ?_
              rintro e w2 ⟨n0, n1, s2, s3, o4, o5, o6, o7, o8, l4, l5, l6, l7, l8, q4, q5, q6, q7, q8, rfl, hm2, hds⟩
              refine hK.out _ _ (mv0 (mv0 (mv0 (Mv.alloc _ W2 M0) (Mv.alloc _ _ A0)) (Mv.drew _ _)) hm2) (fun _ => ?_)
              clear hK K'
              try simp only [Act.put]
              refine wpAnyH_take (i := 13) (v := .tuple #[.agg #[.int .i64 n0, .int .i64 n1, .string s2, .string s3, .slice o4 l4 q4, .slice o5 l5 q5, .slice o6 l6 q6, .slice o7 l7 q7, .slice o8 l8 q8], .agg #[.int .i64 0, .int .i64 0]]) rfl (by kernel_rfl) (by kernel_rfl) (by kernel_rfl) (fun _ _ _ h => h) (Or.inl ⟨by rfl, fun w _ => by rfl⟩) (mv0 (mv0 (mv0 (Mv.alloc _ W2 M0) (Mv.alloc _ _ A0)) (Mv.drew _ _)) hm2) ?_
              try simp only [Act.put]
              refine wpAnyH_take (i := 14) (v := .agg #[.int .i64 n0, .int .i64 n1, .string s2, .string s3, .slice o4 l4 q4, .slice o5 l5 q5, .slice o6 l6 q6, .slice o7 l7 q7, .slice o8 l8 q8]) rfl (by kernel_rfl) (by kernel_rfl) (by kernel_rfl) (fun _ _ _ h => h) (Or.inl ⟨by rfl, fun w _ => by rfl⟩) (mv0 (mv0 (mv0 (Mv.alloc _ W2 M0) (Mv.alloc _ _ A0)) (Mv.drew _ _)) hm2) ?_
              try simp only [Act.put]
              refine wpAnyH_take (i := 15) (v := .agg #[.int .i64 0, .int .i64 0]) rfl (by kernel_rfl) (by kernel_rfl) (by kernel_rfl) (fun _ _ _ h => h) (Or.inl ⟨by rfl, fun w _ => by rfl⟩) (mv0 (mv0 (mv0 (Mv.alloc _ W2 M0) (Mv.alloc _ _ A0)) (Mv.drew _ _)) hm2) ?_
              try simp only [Act.put]
              have hR := ready_Mec (W := W2) hm2 hds
              have HR : Hid (Ready W2 w2 (W2.heap.size + 1) W2.heap.size (.int .i64 n0) (.int .i64 n1) (.string s2) (.string s3) (.slice o4 l4 q4) (.slice o5 l5 q5) (.slice o6 l6 q6) (.slice o7 l7 q7) (.slice o8 l8 q8) dL) := hR
              obtain ⟨⟨k0, k1, k2, k3, k4, k5, k6, k7, k8⟩, kf⟩ := facts9 hR.a
              have f0 := kf 0; have f1 := kf 1; have f2 := kf 2; have f3 := kf 3; have f4 := kf 4; have f5 := kf 5; have f6 := kf 6; have f7 := kf 7; have f8 := kf 8
              clear hR kf hm2 hds
              refine wpAnyH_ready (rs := [18]) (by kernel_rfl) (by simp) ?_
              refine AllReadyH.cons rfl (fun K' hK => ?_) AllReadyH.nil
              go_simp
              clear k0 k1 k2 k3 k4 k5 k6 k7 k8 f0 f1 f2 f3 f4 f5 f6 f7 f8
              obtain ⟨Y, hY⟩ : ∃ Y, bxw9 w2 (W2.heap.size + 1) (.int .i64 n0) (.int .i64 n1) (.string s2) (.string s3) (.slice o4 l4 q4) (.slice o5 l5 q5) (.slice o6 l6 q6) (.slice o7 l7 q7) (.slice o8 l8 q8) = Y := ⟨_, rfl⟩
              change K' _ (bxw9 w2 (W2.heap.size + 1) (.int .i64 n0) (.int .i64 n1) (.string s2) (.string s3) (.slice o4 l4 q4) (.slice o5 l5 q5) (.slice o6 l6 q6) (.slice o7 l7 q7) (.slice o8 l8 q8))
              rw [hY]
              refine hK.out _ _ (by rw [← hY]; exact bxw9_mv _ _ _ _ _ _ _ _ _ HR.out.mv HR.out.hp) (fun _ => ?_)
              clear hK K'
              try simp only [Act.put]
              obtain ⟨k0, k1, f0, f1⟩ := facts2 (show Y.heap[W2.heap.size]? = some M0 by rw [← hY]; exact (bxw9_far _ _ _ _ _ _ _ _ _ (Ne.symm HR.out.ne)).trans HR.out.m)
              have HY : Hid (bxw9 w2 (W2.heap.size + 1) (.int .i64 n0) (.int .i64 n1) (.string s2) (.string s3) (.slice o4 l4 q4) (.slice o5 l5 q5) (.slice o6 l6 q6) (.slice o7 l7 q7) (.slice o8 l8 q8) = Y) := hY
              clear hY
              refine wpAnyH_ready (rs := [19]) (by kernel_rfl) (by simp) ?_
              refine AllReadyH.cons rfl (fun K' hK => ?_) AllReadyH.nil
              go_simp
              clear k0 k1 f0 f1
              change K' _ (bxw2 Y W2.heap.size (.int .i64 0) (.int .i64 0))
              refine hK.out _ _ (bxw2_mv _ _ (by rw [← HY.out]; exact bxw9_mv _ _ _ _ _ _ _ _ _ HR.out.mv HR.out.hp) HR.out.hq) (fun _ => ?_)
              clear hK K'
              try simp only [Act.put]
              refine wpAnyH_done (by kernel_rfl) ?_ _
              go_wp2_with fail
              go_meet
              exact HR.out.after HY.out
      case rest =>
      obtain ⟨pl, ql, vl, rfl, rfl, hm3, hb⟩ := hcut.out.boxed
      clear hcut HE2
      replace c1 := cell_mv hm3 c1 id
      replace c2 := cell_mv hm3 c2 id
      have HW3 : Hid (Mv (fun _ => False) w wc ∧ (G wc ∧ TN wc)) := ⟨mv0 HW.out.1 hm3, gmv HW.out.2 hm3⟩
      have HL3 : Hid (∀ i, i < 18 → wc.cell? ⟨w1.heap.size + 1, i, none⟩ = some (.int .i64 (lvB i : Int))) := fun i hi => cell_mv hm3 (HL2.out i hi) id
      have HBe3 : Hid (Boxed wc pe qe ve dE) := HBe.out.mv hm3
      have HBl : Hid (Boxed wc pl ql vl dL) := hb
      clear hb hm3 HL2 HW HBe
      obtain ⟨W3, hW3⟩ : ∃ W3, wc = W3 := ⟨_, rfl⟩
      rw [hW3] at c1 c2 HW3 HL3 HBe3 HBl ⊢
      clear hW3
      have HW : Hid (Mv (fun _ => False) w W3 ∧ (G W3 ∧ TN W3)) := HW3.out
      clear HW3
      go_upto_region 14 with fail
      go_cut [14, 15] from 71 to 86 (fun v14 v15 wx => Hid (After W3 dR v14 v15 wx))
      case first =>
        clear HBe3 HBl HL3
        refine wp_region_held (S := fun w' => Mv (fun _ => False) W3 w') (by kernel_rfl) ?_
        change wpAnyH _ _ _ _ _ _ _ _ (World.drew _)
        have hS0 : Mv (fun _ => False) W3 (World.drew W3) := Mv.drew _ _
        refine wpAnyH_take (i := 0) (v := .slice (some ⟨w1.heap.size, 0, none⟩) 18 18) rfl (by kernel_rfl) (by kernel_rfl) (by kernel_rfl) (fun _ _ _ h => h) (Or.inl ⟨by rfl, fun w _ => by rfl⟩) hS0 ?_
        try simp only [Act.put]
        refine wpAnyH_take (i := 1) (v := .int .i64 (NA : Int)) rfl (by kernel_rfl) (by kernel_rfl) (by kernel_rfl) (fun _ _ _ h => h) (Or.inl ⟨by rfl, fun w _ => by rfl⟩) hS0 ?_
        try simp only [Act.put]
        refine wpAnyH_take (i := 2) (v := .pointer (some ⟨w1.heap.size, NA, none⟩)) rfl (by kernel_rfl) (by kernel_rfl) (by kernel_rfl) (fun _ _ _ h => h) (Or.inl ⟨by rfl, fun w _ => by go_simp⟩) hS0 ?_
        try simp only [Act.put]
        refine wpAnyH_take (i := 3) (v := .string S1) rfl (by kernel_rfl) (by kernel_rfl) (by kernel_rfl) (fun _ _ _ h => h) (Or.inl ⟨by rfl, fun w hw => by have hc := cell_mv hw c1 id; go_simp⟩) hS0 ?_
        try simp only [Act.put]
        refine wpAnyH_take (i := 6) (v := .slice (some ⟨w1.heap.size, 0, none⟩) 18 18) rfl (by kernel_rfl) (by kernel_rfl) (by kernel_rfl) (fun _ _ _ h => h) (Or.inl ⟨by rfl, fun w _ => by rfl⟩) hS0 ?_
        try simp only [Act.put]
        refine wpAnyH_take (i := 7) (v := .int .i64 (NB : Int)) rfl (by kernel_rfl) (by kernel_rfl) (by kernel_rfl) (fun _ _ _ h => h) (Or.inl ⟨by rfl, fun w _ => by rfl⟩) hS0 ?_
        try simp only [Act.put]
        refine wpAnyH_take (i := 8) (v := .pointer (some ⟨w1.heap.size, NB, none⟩)) rfl (by kernel_rfl) (by kernel_rfl) (by kernel_rfl) (fun _ _ _ h => h) (Or.inl ⟨by rfl, fun w _ => by go_simp⟩) hS0 ?_
        try simp only [Act.put]
        refine wpAnyH_take (i := 9) (v := .string S2) rfl (by kernel_rfl) (by kernel_rfl) (by kernel_rfl) (fun _ _ _ h => h) (Or.inl ⟨by rfl, fun w hw => by have hc := cell_mv hw c2 id; go_simp⟩) hS0 ?_
        try simp only [Act.put]
        refine wpAnyH_take (i := 4) (v := .string (⟨#[120, 32]⟩ ++ S1)) rfl (by kernel_rfl) (by kernel_rfl) (by kernel_rfl) (fun _ _ _ h => h) (Or.inl ⟨by rfl, fun w _ => by go_simp; omega⟩) hS0 ?_
        try simp only [Act.put]
        refine wpAnyH_take (i := 5) (v := .string ((⟨#[120, 32]⟩ ++ S1) ++ ⟨#[32, 40, 121, 32]⟩)) rfl (by kernel_rfl) (by kernel_rfl) (by kernel_rfl) (fun _ _ _ h => h) (Or.inl ⟨by rfl, fun w _ => by go_simp; omega⟩) hS0 ?_
        try simp only [Act.put]
        refine wpAnyH_take (i := 10) (v := .string (((⟨#[120, 32]⟩ ++ S1) ++ ⟨#[32, 40, 121, 32]⟩) ++ S2)) rfl (by kernel_rfl) (by kernel_rfl) (by kernel_rfl) (fun _ _ _ h => h) (Or.inl ⟨by rfl, fun w _ => by go_simp; omega⟩) hS0 ?_
        try simp only [Act.put]
        refine wpAnyH_take (i := 11) (v := .string ((((⟨#[120, 32]⟩ ++ S1) ++ ⟨#[32, 40, 121, 32]⟩) ++ S2) ++ ⟨#[32, 122, 41]⟩)) rfl (by kernel_rfl) (by kernel_rfl) (by kernel_rfl) (fun _ _ _ h => h) (Or.inl ⟨by rfl, fun w _ => by go_simp; omega⟩) hS0 ?_
        try simp only [Act.put]
        refine wpAnyH_ready (rs := [12, 16, 17]) (by kernel_rfl) (by simp) ?_
        refine AllReadyH.cons rfl (fun K' hK => ?_) (AllReadyH.cons rfl (fun K' hK => ?_) (AllReadyH.cons rfl (fun K' hK => ?_) AllReadyH.nil))
        · go_simp
          refine (HE3.out _ (gmv HW.out.2 (Mv.drew _ W3)).1 (gmv HW.out.2 (Mv.drew _ W3)).2).mono ?_
          rintro e w2 ⟨n0, n1, s2, s3, o4, o5, o6, o7, o8, l4, l5, l6, l7, l8, q4, q5, q6, q7, q8, rfl, hm2, hds⟩
          refine hK.out _ _ (mv0 (Mv.drew _ W3) hm2) (fun _ => ?_)
          clear hK K'
          try simp only [Act.put]
          refine wpAnyH_take (i := 13) (v := .tuple #[.agg #[.int .i64 n0, .int .i64 n1, .string s2, .string s3, .slice o4 l4 q4, .slice o5 l5 q5, .slice o6 l6 q6, .slice o7 l7 q7, .slice o8 l8 q8], .agg #[.int .i64 0, .int .i64 0]]) rfl (by kernel_rfl) (by kernel_rfl) (by kernel_rfl) (fun _ _ _ h => h) (Or.inl ⟨by rfl, fun w _ => by rfl⟩) (mv0 (Mv.drew _ W3) hm2) ?_
          try simp only [Act.put]
          refine wpAnyH_take (i := 14) (v := .agg #[.int .i64 n0, .int .i64 n1, .string s2, .string s3, .slice o4 l4 q4, .slice o5 l5 q5, .slice o6 l6 q6, .slice o7 l7 q7, .slice o8 l8 q8]) rfl (by kernel_rfl) (by kernel_rfl) (by kernel_rfl) (fun _ _ _ h => h) (Or.inl ⟨by rfl, fun w _ => by rfl⟩) (mv0 (Mv.drew _ W3) hm2) ?_
          try simp only [Act.put]
          refine wpAnyH_take (i := 15) (v := .agg #[.int .i64 0, .int .i64 0]) rfl (by kernel_rfl) (by kernel_rfl) (by kernel_rfl) (fun _ _ _ h => h) (Or.inl ⟨by rfl, fun w _ => by rfl⟩) (mv0 (Mv.drew _ W3) hm2) ?_
          try simp only [Act.put]
          refine wpAnyH_ready (rs := [16, 17]) (by kernel_rfl) (by simp) ?_
          refine AllReadyH.cons rfl (fun K' hK => ?_) (AllReadyH.cons rfl (fun K' hK => ?_) AllReadyH.nil)
          · go_simp
            refine hK.out _ _ (mv0 (mv0 (Mv.drew _ W3) hm2) (Mv.alloc _ _ A0)) (fun _ => ?_)
            clear hK K'
            try simp only [Act.put]
            refine wpAnyH_ready (rs := [17]) (by kernel_rfl) (by simp) ?_
            refine AllReadyH.cons rfl (fun K' hK => ?_) AllReadyH.nil
            · go_simp
              refine hK.out _ _ (mv0 (mv0 (mv0 (Mv.drew _ W3) hm2) (Mv.alloc _ _ A0)) (Mv.alloc _ _ M0)) (fun _ => ?_)
              clear hK K'
              try simp only [Act.put]
              have hR := ready_ceM (W := W3) hm2 hds
              obtain ⟨X, hX⟩ : ∃ X, ((w2.alloc A0).alloc M0) = X := ⟨_, rfl⟩
              rw [hX] at hR ⊢
              clear hX
              have HR : Hid (Ready W3 X w2.heap.size (w2.heap.size + 1) (.int .i64 n0) (.int .i64 n1) (.string s2) (.string s3) (.slice o4 l4 q4) (.slice o5 l5 q5) (.slice o6 l6 q6) (.slice o7 l7 q7) (.slice o8 l8 q8) dR) := hR
              obtain ⟨⟨k0, k1, k2, k3, k4, k5, k6, k7, k8⟩, kf⟩ := facts9 hR.a
              have f0 := kf 0; have f1 := kf 1; have f2 := kf 2; have f3 := kf 3; have f4 := kf 4; have f5 := kf 5; have f6 := kf 6; have f7 := kf 7; have f8 := kf 8
              clear hR kf hm2 hds
              refine wpAnyH_ready (rs := [18]) (by kernel_rfl) (by simp) ?_
              refine AllReadyH.cons rfl (fun K' hK => ?_) AllReadyH.nil
              go_simp
              clear k0 k1 k2 k3 k4 k5 k6 k7 k8 f0 f1 f2 f3 f4 f5 f6 f7 f8
              obtain ⟨Y, hY⟩ : ∃ Y, bxw9 X w2.heap.size (.int .i64 n0) (.int .i64 n1) (.string s2) (.string s3) (.slice o4 l4 q4) (.slice o5 l5 q5) (.slice o6 l6 q6) (.slice o7 l7 q7) (.slice o8 l8 q8) = Y := ⟨_, rfl⟩
              change K' _ (bxw9 X w2.heap.size (.int .i64 n0) (.int .i64 n1) (.string s2) (.string s3) (.slice o4 l4 q4) (.slice o5 l5 q5) (.slice o6 l6 q6) (.slice o7 l7 q7) (.slice o8 l8 q8))
              rw [hY]
              refine hK.out _ _ (by rw [← hY]; exact bxw9_mv _ _ _ _ _ _ _ _ _ HR.out.mv HR.out.hp) (fun _ => ?_)
              clear hK K'
              try simp only [Act.put]
              obtain ⟨k0, k1, f0, f1⟩ := facts2 (show Y.heap[(w2.heap.size + 1)]? = some M0 by rw [← hY]; exact (bxw9_far _ _ _ _ _ _ _ _ _ (Ne.symm HR.out.ne)).trans HR.out.m)
              have HY : Hid (bxw9 X w2.heap.size (.int .i64 n0) (.int .i64 n1) (.string s2) (.string s3) (.slice o4 l4 q4) (.slice o5 l5 q5) (.slice o6 l6 q6) (.slice o7 l7 q7) (.slice o8 l8 q8) = Y) := hY
              clear hY
              refine wpAnyH_ready (rs := [19]) (by kernel_rfl) (by simp) ?_
              refine AllReadyH.cons rfl (fun K' hK => ?_) AllReadyH.nil
              go_simp
              clear k0 k1 f0 f1
              change K' _ (bxw2 Y (w2.heap.size + 1) (.int .i64 0) (.int .i64 0))
              refine hK.out _ _ (bxw2_mv _ _ (by rw [← HY.out]; exact bxw9_mv _ _ _ _ _ _ _ _ _ HR.out.mv HR.out.hp) HR.out.hq) (fun _ => ?_)
              clear hK K'
              try simp only [Act.put]
              refine wpAnyH_done (by kernel_rfl) ?_ _
              go_wp2_with fail
              go_meet
              exact HR.out.after HY.out
          · go_simp
            refine hK.out _ _ (mv0 (mv0 (Mv.drew _ W3) hm2) (Mv.alloc _ _ M0)) (fun _ => ?_)
            clear hK K'
            try simp only [Act.put]
            refine wpAnyH_ready (rs := [16]) (by kernel_rfl) (by simp) ?_
            refine AllReadyH.cons rfl (fun K' hK => ?_) AllReadyH.nil
            · go_simp
              refine hK.out _ _ (mv0 (mv0 (mv0 (Mv.drew _ W3) hm2) (Mv.alloc _ _ M0)) (Mv.alloc _ _ A0)) (fun _ => ?_)
              clear hK K'
              try simp only [Act.put]
              have hR := ready_cMe (W := W3) hm2 hds
              obtain ⟨X, hX⟩ : ∃ X, ((w2.alloc M0).alloc A0) = X := ⟨_, rfl⟩
              rw [hX] at hR ⊢
              clear hX
              have HR : Hid (Ready W3 X (w2.heap.size + 1) w2.heap.size (.int .i64 n0) (.int .i64 n1) (.string s2) (.string s3) (.slice o4 l4 q4) (.slice o5 l5 q5) (.slice o6 l6 q6) (.slice o7 l7 q7) (.slice o8 l8 q8) dR) := hR
              obtain ⟨⟨k0, k1, k2, k3, k4, k5, k6, k7, k8⟩, kf⟩ := facts9 hR.a
              have f0 := kf 0; have f1 := kf 1; have f2 := kf 2; have f3 := kf 3; have f4 := kf 4; have f5 := kf 5; have f6 := kf 6; have f7 := kf 7; have f8 := kf 8
              clear hR kf hm2 hds
              refine wpAnyH_ready (rs := [18]) (by kernel_rfl) (by simp) ?_
              refine AllReadyH.cons rfl (fun K' hK => ?_) AllReadyH.nil
              go_simp
              clear k0 k1 k2 k3 k4 k5 k6 k7 k8 f0 f1 f2 f3 f4 f5 f6 f7 f8
              obtain ⟨Y, hY⟩ : ∃ Y, bxw9 X (w2.heap.size + 1) (.int .i64 n0) (.int .i64 n1) (.string s2) (.string s3) (.slice o4 l4 q4) (.slice o5 l5 q5) (.slice o6 l6 q6) (.slice o7 l7 q7) (.slice o8 l8 q8) = Y := ⟨_, rfl⟩
              change K' _ (bxw9 X (w2.heap.size + 1) (.int .i64 n0) (.int .i64 n1) (.string s2) (.string s3) (.slice o4 l4 q4) (.slice o5 l5 q5) (.slice o6 l6 q6) (.slice o7 l7 q7) (.slice o8 l8 q8))
              rw [hY]
              refine hK.out _ _ (by rw [← hY]; exact bxw9_mv _ _ _ _ _ _ _ _ _ HR.out.mv HR.out.hp) (fun _ => ?_)
              clear hK K'
              try simp only [Act.put]
              obtain ⟨k0, k1, f0, f1⟩ := facts2 (show Y.heap[w2.heap.size]? = some M0 by rw [← hY]; exact (bxw9_far _ _ _ _ _ _ _ _ _ (Ne.symm HR.out.ne)).trans HR.out.m)
              have HY : Hid (bxw9 X (w2.heap.size + 1) (.int .i64 n0) (.int .i64 n1) (.string s2) (.string s3) (.slice o4 l4 q4) (.slice o5 l5 q5) (.slice o6 l6 q6) (.slice o7 l7 q7) (.slice o8 l8 q8) = Y) := hY
              clear hY
              refine wpAnyH_ready (rs := [19]) (by kernel_rfl) (by simp) ?_
              refine AllReadyH.cons rfl (fun K' hK => ?_) AllReadyH.nil
              go_simp
              clear k0 k1 f0 f1
              change K' _ (bxw2 Y w2.heap.size (.int .i64 0) (.int .i64 0))
              refine hK.out _ _ (bxw2_mv _ _ (by rw [← HY.out]; exact bxw9_mv _ _ _ _ _ _ _ _ _ HR.out.mv HR.out.hp) HR.out.hq) (fun _ => ?_)
              clear hK K'
              try simp only [Act.put]
              refine wpAnyH_done (by kernel_rfl) ?_ _
              go_wp2_with fail
              go_meet
              exact HR.out.after HY.out
        · go_simp
          refine hK.out _ _ (mv0 (Mv.alloc _ W3 A0) (Mv.drew _ _)) (fun _ => ?_)
          clear hK K'
          try simp only [Act.put]
          refine wpAnyH_ready (rs := [12, 17]) (by kernel_rfl) (by simp) ?_
          refine AllReadyH.cons rfl (fun K' hK => ?_) (AllReadyH.cons rfl (fun K' hK => ?_) AllReadyH.nil)
          · go_simp
            refine (HE3.out _ (gmv HW.out.2 (mv0 (Mv.alloc _ W3 A0) (Mv.drew _ _))).1 (gmv HW.out.2 (mv0 (Mv.alloc _ W3 A0) (Mv.drew _ _))).2).mono ?_
            rintro e w2 ⟨n0, n1, s2, s3, o4, o5, o6, o7, o8, l4, l5, l6, l7, l8, q4, q5, q6, q7, q8, rfl, hm2, hds⟩
            refine hK.out _ _ (mv0 (mv0 (Mv.alloc _ W3 A0) (Mv.drew _ _)) hm2) (fun _ => ?_)
            clear hK K'
            try simp only [Act.put]
            refine wpAnyH_take (i := 13) (v := .tuple #[.agg #[.int .i64 n0, .int .i64 n1, .string s2, .string s3, .slice o4 l4 q4, .slice o5 l5 q5, .slice o6 l6 q6, .slice o7 l7 q7, .slice o8 l8 q8], .agg #[.int .i64 0, .int .i64 0]]) rfl (by kernel_rfl) (by kernel_rfl) (by kernel_rfl) (fun _ _ _ h => h) (Or.inl ⟨by rfl, fun w _ => by rfl⟩) (mv0 (mv0 (Mv.alloc _ W3 A0) (Mv.drew _ _)) hm2) ?_
            try simp only [Act.put]
            refine wpAnyH_take (i := 14) (v := .agg #[.int .i64 n0, .int .i64 n1, .string s2, .string s3, .slice o4 l4 q4, .slice o5 l5 q5, .slice o6 l6 q6, .slice o7 l7 q7, .slice o8 l8 q8]) rfl (by kernel_rfl) (by kernel_rfl) (by kernel_rfl) (fun _ _ _ h => h) (Or.inl ⟨by rfl, fun w _ => by rfl⟩) (mv0 (mv0 (Mv.alloc _ W3 A0) (Mv.drew _ _)) hm2) ?_
            try simp only [Act.put]
            refine wpAnyH_take (i := 15) (v := .agg #[.int .i64 0, .int .i64 0]) rfl (by kernel_rfl) (by kernel_rfl) (by kernel_rfl) (fun _ _ _ h => h) (Or.inl ⟨by rfl, fun w _ => by rfl⟩) (mv0 (mv0 (Mv.alloc _ W3 A0) (Mv.drew _ _)) hm2) ?_
            try simp only [Act.put]
            refine wpAnyH_ready (rs := [17]) (by kernel_rfl) (by simp) ?_
            refine AllReadyH.cons rfl (fun K' hK => ?_) AllReadyH.nil
            · go_simp
              refine hK.out _ _ (mv0 (mv0 (mv0 (Mv.alloc _ W3 A0) (Mv.drew _ _)) hm2) (Mv.alloc _ _ M0)) (fun _ => ?_)
              clear hK K'
              try simp only [Act.put]
              have hR := ready_ecM (W := W3) hm2 hds
              obtain ⟨X, hX⟩ : ∃ X, (w2.alloc M0) = X := ⟨_, rfl⟩
              rw [hX] at hR ⊢
              clear hX
              have HR : Hid (Ready W3 X W3.heap.size w2.heap.size (.int .i64 n0) (.int .i64 n1) (.string s2) (.string s3) (.slice o4 l4 q4) (.slice o5 l5 q5) (.slice o6 l6 q6) (.slice o7 l7 q7) (.slice o8 l8 q8) dR) := hR
              obtain ⟨⟨k0, k1, k2, k3, k4, k5, k6, k7, k8⟩, kf⟩ := facts9 hR.a
              have f0 := kf 0; have f1 := kf 1; have f2 := kf 2; have f3 := kf 3; have f4 := kf 4; have f5 := kf 5; have f6 := kf 6; have f7 := kf 7; have f8 := kf 8
              clear hR kf hm2 hds
              refine wpAnyH_ready (rs := [18]) (by kernel_rfl) (by simp) ?_
              refine AllReadyH.cons rfl (fun K' hK => ?_) AllReadyH.nil
              go_simp
              clear k0 k1 k2 k3 k4 k5 k6 k7 k8 f0 f1 f2 f3 f4 f5 f6 f7 f8
              obtain ⟨Y, hY⟩ : ∃ Y, bxw9 X W3.heap.size (.int .i64 n0) (.int .i64 n1) (.string s2) (.string s3) (.slice o4 l4 q4) (.slice o5 l5 q5) (.slice o6 l6 q6) (.slice o7 l7 q7) (.slice o8 l8 q8) = Y := ⟨_, rfl⟩
              change K' _ (bxw9 X W3.heap.size (.int .i64 n0) (.int .i64 n1) (.string s2) (.string s3) (.slice o4 l4 q4) (.slice o5 l5 q5) (.slice o6 l6 q6) (.slice o7 l7 q7) (.slice o8 l8 q8))
              rw [hY]
              refine hK.out _ _ (by rw [← hY]; exact bxw9_mv _ _ _ _ _ _ _ _ _ HR.out.mv HR.out.hp) (fun _ => ?_)
              clear hK K'
              try simp only [Act.put]
              obtain ⟨k0, k1, f0, f1⟩ := facts2 (show Y.heap[w2.heap.size]? = some M0 by rw [← hY]; exact (bxw9_far _ _ _ _ _ _ _ _ _ (Ne.symm HR.out.ne)).trans HR.out.m)
              have HY : Hid (bxw9 X W3.heap.size (.int .i64 n0) (.int .i64 n1) (.string s2) (.string s3) (.slice o4 l4 q4) (.slice o5 l5 q5) (.slice o6 l6 q6) (.slice o7 l7 q7) (.slice o8 l8 q8) = Y) := hY
              clear hY
              refine wpAnyH_ready (rs := [19]) (by kernel_rfl) (by simp) ?_
              refine AllReadyH.cons rfl (fun K' hK => ?_) AllReadyH.nil
              go_simp
              clear k0 k1 f0 f1
              change K' _ (bxw2 Y w2.heap.size (.int .i64 0) (.int .i64 0))
              refine hK.out _ _ (bxw2_mv _ _ (by rw [← HY.out]; exact bxw9_mv _ _ _ _ _ _ _ _ _ HR.out.mv HR.out.hp) HR.out.hq) (fun _ => ?_)
              clear hK K'
              try simp only [Act.put]
              refine wpAnyH_done (by kernel_rfl) ?_ _
              go_wp2_with fail
              go_meet
              exact HR.out.after HY.out
          · go_simp
            refine hK.out _ _ (mv0 (mv0 (Mv.alloc _ W3 A0) (Mv.alloc _ _ M0)) (Mv.drew _ _)) (fun _ => ?_)
            clear hK K'
            try simp only [Act.put]
            refine wpAnyH_ready (rs := [12]) (by kernel_rfl) (by simp) ?_
            refine AllReadyH.cons rfl (fun K' hK => ?_) AllReadyH.nil
            · go_simp
              refine (HE3.out _ (gmv HW.out.2 (mv0 (mv0 (Mv.alloc _ W3 A0) (Mv.alloc _ _ M0)) (Mv.drew _ _))).1 (gmv HW.out.2 (mv0 (mv0 (Mv.alloc _ W3 A0) (Mv.alloc _ _ M0)) (Mv.drew _ _))).2).mono ?_
              rintro e w2 ⟨n0, n1, s2, s3, o4, o5, o6, o7, o8, l4, l5, l6, l7, l8, q4, q5, q6, q7, q8, rfl, hm2, hds⟩
              refine hK.out _ _ (mv0 (mv0 (mv0 (Mv.alloc _ W3 A0) (Mv.alloc _ _ M0)) (Mv.drew _ _)) hm2) (fun _ => ?_)
              clear hK K'
              try simp only [Act.put]
              refine wpAnyH_take (i := 13) (v := .tuple #[.agg #[.int .i64 n0, .int .i64 n1, .string s2, .string s3, .slice o4 l4 q4, .slice o5 l5 q5, .slice o6 l6 q6, .slice o7 l7 q7, .slice o8 l8 q8], .agg #[.int .i64 0, .int .i64 0]]) rfl (by kernel_rfl) (by kernel_rfl) (by kernel_rfl) (fun _ _ _ h => h) (Or.inl ⟨by rfl, fun w _ => by rfl⟩) (mv0 (mv0 (mv0 (Mv.alloc _ W3 A0) (Mv.alloc _ _ M0)) (Mv.drew _ _)) hm2) ?_
              try simp only [Act.put]
              refine wpAnyH_take (i := 14) (v := .agg #[.int .i64 n0, .int .i64 n1, .string s2, .string s3, .slice o4 l4 q4, .slice o5 l5 q5, .slice o6 l6 q6, .slice o7 l7 q7, .slice o8 l8 q8]) rfl (by kernel_rfl) (by kernel_rfl) (by kernel_rfl) (fun _ _ _ h => h) (Or.inl ⟨by rfl, fun w _ => by rfl⟩) (mv0 (mv0 (mv0 (Mv.alloc _ W3 A0) (Mv.alloc _ _ M0)) (Mv.drew _ _)) hm2) ?_
              try simp only [Act.put]
              refine wpAnyH_take (i := 15) (v := .agg #[.int .i64 0, .int .i64 0]) rfl (by kernel_rfl) (by kernel_rfl) (by kernel_rfl) (fun _ _ _ h => h) (Or.inl ⟨by rfl, fun w _ => by rfl⟩) (mv0 (mv0 (mv0 (Mv.alloc _ W3 A0) (Mv.alloc _ _ M0)) (Mv.drew _ _)) hm2) ?_
              try simp only [Act.put]
              have hR := ready_eMc (W := W3) hm2 hds
              have HR : Hid (Ready W3 w2 W3.heap.size (W3.heap.size + 1) (.int .i64 n0) (.int .i64 n1) (.string s2) (.string s3) (.slice o4 l4 q4) (.slice o5 l5 q5) (.slice o6 l6 q6) (.slice o7 l7 q7) (.slice o8 l8 q8) dR) := hR
              obtain ⟨⟨k0, k1, k2, k3, k4, k5, k6, k7, k8⟩, kf⟩ := facts9 hR.a
              have f0 := kf 0; have f1 := kf 1; have f2 := kf 2; have f3 := kf 3; have f4 := kf 4; have f5 := kf 5; have f6 := kf 6; have f7 := kf 7; have f8 := kf 8
              clear hR kf hm2 hds
              refine wpAnyH_ready (rs := [18]) (by kernel_rfl) (by simp) ?_
              refine AllReadyH.cons rfl (fun K' hK => ?_) AllReadyH.nil
              go_simp
              clear k0 k1 k2 k3 k4 k5 k6 k7 k8 f0 f1 f2 f3 f4 f5 f6 f7 f8
              obtain ⟨Y, hY⟩ : ∃ Y, bxw9 w2 W3.heap.size (.int .i64 n0) (.int .i64 n1) (.string s2) (.string s3) (.slice o4 l4 q4) (.slice o5 l5 q5) (.slice o6 l6 q6) (.slice o7 l7 q7) (.slice o8 l8 q8) = Y := ⟨_, rfl⟩
              change K' _ (bxw9 w2 W3.heap.size (.int .i64 n0) (.int .i64 n1) (.string s2) (.string s3) (.slice o4 l4 q4) (.slice o5 l5 q5) (.slice o6 l6 q6) (.slice o7 l7 q7) (.slice o8 l8 q8))
              rw [hY]
              refine hK.out _ _ (by rw [← hY]; exact bxw9_mv _ _ _ _ _ _ _ _ _ HR.out.mv HR.out.hp) (fun _ => ?_)
              clear hK K'
              try simp only [Act.put]
              obtain ⟨k0, k1, f0, f1⟩ := facts2 (show Y.heap[(W3.heap.size + 1)]? = some M0 by rw [← hY]; exact (bxw9_far _ _ _ _ _ _ _ _ _ (Ne.symm HR.out.ne)).trans HR.out.m)
              have HY : Hid (bxw9 w2 W3.heap.size (.int .i64 n0) (.int .i64 n1) (.string s2) (.string s3) (.slice o4 l4 q4) (.slice o5 l5 q5) (.slice o6 l6 q6) (.slice o7 l7 q7) (.slice o8 l8 q8) = Y) := hY
              clear hY
              refine wpAnyH_ready (rs := [19]) (by kernel_rfl) (by simp) ?_
              refine AllReadyH.cons rfl (fun K' hK => ?_) AllReadyH.nil
              go_simp
              clear k0 k1 f0 f1
              change K' _ (bxw2 Y (W3.heap.size + 1) (.int .i64 0) (.int .i64 0))
              refine hK.out _ _ (bxw2_mv _ _ (by rw [← HY.out]; exact bxw9_mv _ _ _ _ _ _ _ _ _ HR.out.mv HR.out.hp) HR.out.hq) (fun _ => ?_)
              clear hK K'
              try simp only [Act.put]
              refine wpAnyH_done (by kernel_rfl) ?_ _
              go_wp2_with fail
              go_meet
              exact HR.out.after HY.out
        · go_simp
          refine hK.out _ _ (mv0 (Mv.alloc _ W3 M0) (Mv.drew _ _)) (fun _ => ?_)
          clear hK K'
          try simp only [Act.put]
          refine wpAnyH_ready (rs := [12, 16]) (by kernel_rfl) (by simp) ?_
          refine AllReadyH.cons rfl (fun K' hK => ?_) (AllReadyH.cons rfl (fun K' hK => ?_) AllReadyH.nil)
          · go_simp
            refine (HE3.out _ (gmv HW.out.2 (mv0 (Mv.alloc _ W3 M0) (Mv.drew _ _))).1 (gmv HW.out.2 (mv0 (Mv.alloc _ W3 M0) (Mv.drew _ _))).2).mono ?_
            rintro e w2 ⟨n0, n1, s2, s3, o4, o5, o6, o7, o8, l4, l5, l6, l7, l8, q4, q5, q6, q7, q8, rfl, hm2, hds⟩
            refine hK.out _ _ (mv0 (mv0 (Mv.alloc _ W3 M0) (Mv.drew _ _)) hm2) (fun _ => ?_)
            clear hK K'
            try simp only [Act.put]
            refine wpAnyH_take (i := 13) (v := .tuple #[.agg #[.int .i64 n0, .int .i64 n1, .string s2, .string s3, .slice o4 l4 q4, .slice o5 l5 q5, .slice o6 l6 q6, .slice o7 l7 q7, .slice o8 l8 q8], .agg #[.int .i64 0, .int .i64 0]]) rfl (by kernel_rfl) (by kernel_rfl) (by kernel_rfl) (fun _ _ _ h => h) (Or.inl ⟨by rfl, fun w _ => by rfl⟩) (mv0 (mv0 (Mv.alloc _ W3 M0) (Mv.drew _ _)) hm2) ?_
            try simp only [Act.put]
            refine wpAnyH_take (i := 14) (v := .agg #[.int .i64 n0, .int .i64 n1, .string s2, .string s3, .slice o4 l4 q4, .slice o5 l5 q5, .slice o6 l6 q6, .slice o7 l7 q7, .slice o8 l8 q8]) rfl (by kernel_rfl) (by kernel_rfl) (by kernel_rfl) (fun _ _ _ h => h) (Or.inl ⟨by rfl, fun w _ => by rfl⟩) (mv0 (mv0 (Mv.alloc _ W3 M0) (Mv.drew _ _)) hm2) ?_
            try simp only [Act.put]
            refine wpAnyH_take (i := 15) (v := .agg #[.int .i64 0, .int .i64 0]) rfl (by kernel_rfl) (by kernel_rfl) (by kernel_rfl) (fun _ _ _ h => h) (Or.inl ⟨by rfl, fun w _ => by rfl⟩) (mv0 (mv0 (Mv.alloc _ W3 M0) (Mv.drew _ _)) hm2) ?_
            try simp only [Act.put]
            refine wpAnyH_ready (rs := [16]) (by kernel_rfl) (by simp) ?_
            refine AllReadyH.cons rfl (fun K' hK => ?_) AllReadyH.nil
            · go_simp
              refine hK.out _ _ (mv0 (mv0 (mv0 (Mv.alloc _ W3 M0) (Mv.drew _ _)) hm2) (Mv.alloc _ _ A0)) (fun _ => ?_)
              clear hK K'
              try simp only [Act.put]
              have hR := ready_Mce (W := W3) hm2 hds
              obtain ⟨X, hX⟩ : ∃ X, (w2.alloc A0) = X := ⟨_, rfl⟩
              rw [hX] at hR ⊢
              clear hX
              have HR : Hid (Ready W3 X w2.heap.size W3.heap.size (.int .i64 n0) (.int .i64 n1) (.string s2) (.string s3) (.slice o4 l4 q4) (.slice o5 l5 q5) (.slice o6 l6 q6) (.slice o7 l7 q7) (.slice o8 l8 q8) dR) := hR
              obtain ⟨⟨k0, k1, k2, k3, k4, k5, k6, k7, k8⟩, kf⟩ := facts9 hR.a
              have f0 := kf 0; have f1 := kf 1; have f2 := kf 2; have f3 := kf 3; have f4 := kf 4; have f5 := kf 5; have f6 := kf 6; have f7 := kf 7; have f8 := kf 8
              clear hR kf hm2 hds
              refine wpAnyH_ready (rs := [18]) (by kernel_rfl) (by simp) ?_
              refine AllReadyH.cons rfl (fun K' hK => ?_) AllReadyH.nil
              go_simp
              clear k0 k1 k2 k3 k4 k5 k6 k7 k8 f0 f1 f2 f3 f4 f5 f6 f7 f8
              obtain ⟨Y, hY⟩ : ∃ Y, bxw9 X w2.heap.size (.int .i64 n0) (.int .i64 n1) (.string s2) (.string s3) (.slice o4 l4 q4) (.slice o5 l5 q5) (.slice o6 l6 q6) (.slice o7 l7 q7) (.slice o8 l8 q8) = Y := ⟨_, rfl⟩
              change K' _ (bxw9 X w2.heap.size (.int .i64 n0) (.int .i64 n1) (.string s2) (.string s3) (.slice o4 l4 q4) (.slice o5 l5 q5) (.slice o6 l6 q6) (.slice o7 l7 q7) (.slice o8 l8 q8))
              rw [hY]
              refine hK.out _ _ (by rw [← hY]; exact bxw9_mv _ _ _ _ _ _ _ _ _ HR.out.mv HR.out.hp) (fun _ => ?_)
              clear hK K'
              try simp only [Act.put]
              obtain ⟨k0, k1, f0, f1⟩ := facts2 (show Y.heap[W3.heap.size]? = some M0 by rw [← hY]; exact (bxw9_far _ _ _ _ _ _ _ _ _ (Ne.symm HR.out.ne)).trans HR.out.m)
              have HY : Hid (bxw9 X w2.heap.size (.int .i64 n0) (.int .i64 n1) (.string s2) (.string s3) (.slice o4 l4 q4) (.slice o5 l5 q5) (.slice o6 l6 q6) (.slice o7 l7 q7) (.slice o8 l8 q8) = Y) := hY
              clear hY
              refine wpAnyH_ready (rs := [19]) (by kernel_rfl) (by simp) ?_
              refine AllReadyH.cons rfl (fun K' hK => ?_) AllReadyH.nil
              go_simp
              clear k0 k1 f0 f1
              change K' _ (bxw2 Y W3.heap.size (.int .i64 0) (.int .i64 0))
              refine hK.out _ _ (bxw2_mv _ _ (by rw [← HY.out]; exact bxw9_mv _ _ _ _ _ _ _ _ _ HR.out.mv HR.out.hp) HR.out.hq) (fun _ => ?_)
              clear hK K'
              try simp only [Act.put]
              refine wpAnyH_done (by kernel_rfl) ?_ _
              go_wp2_with fail
              go_meet
              exact HR.out.after HY.out
          · go_simp
            refine hK.out _ _ (mv0 (mv0 (Mv.alloc _ W3 M0) (Mv.alloc _ _ A0)) (Mv.drew _ _)) (fun _ => ?_)
            clear hK K'
            try simp only [Act.put]
            refine wpAnyH_ready (rs := [12]) (by kernel_rfl) (by simp) ?_
            refine AllReadyH.cons rfl (fun K' hK => ?_) AllReadyH.nil
            · go_simp
              refine (HE3.out _ (gmv HW.out.2 (mv0 (mv0 (Mv.alloc _ W3 M0) (Mv.alloc _ _ A0)) (Mv.drew _ _))).1 (gmv HW.out.2 (mv0 (mv0 (Mv.alloc _ W3 M0) (Mv.alloc _ _ A0)) (Mv.drew _ _))).2).mono ?_
              rintro e w2 ⟨n0, n1, s2, s3, o4, o5, o6, o7, o8, l4, l5, l6, l7, l8, q4, q5, q6, q7, q8, rfl, hm2, hds⟩
              refine hK.out _ _ (mv0 (mv0 (mv0 (Mv.alloc _ W3 M0) (Mv.alloc _ _ A0)) (Mv.drew _ _)) hm2) (fun _ => ?_)
              clear hK K'
              try simp only [Act.put]
              refine wpAnyH_take (i := 13) (v := .tuple #[.agg #[.int .i64 n0, .int .i64 n1, .string s2, .string s3, .slice o4 l4 q4, .slice o5 l5 q5, .slice o6 l6 q6, .slice o7 l7 q7, .slice o8 l8 q8], .agg #[.int .i64 0, .int .i64 0]]) rfl (by kernel_rfl) (by kernel_rfl) (by kernel_rfl) (fun _ _ _ h => h) (Or.inl ⟨by rfl, fun w _ => by rfl⟩) (mv0 (mv0 (mv0 (Mv.alloc _ W3 M0) (Mv.alloc _ _ A0)) (Mv.drew _ _)) hm2) ?_
              try simp only [Act.put]
              refine wpAnyH_take (i := 14) (v := .agg #[.int .i64 n0, .int .i64 n1, .string s2, .string s3, .slice o4 l4 q4, .slice o5 l5 q5, .slice o6 l6 q6, .slice o7 l7 q7, .slice o8 l8 q8]) rfl (by kernel_rfl) (by kernel_rfl) (by kernel_rfl) (fun _ _ _ h => h) (Or.inl ⟨by rfl, fun w _ => by rfl⟩) (mv0 (mv0 (mv0 (Mv.alloc _ W3 M0) (Mv.alloc _ _ A0)) (Mv.drew _ _)) hm2) ?_
              try simp only [Act.put]
              refine wpAnyH_take (i := 15) (v := .agg #[.int .i64 0, .int .i64 0]) rfl (by kernel_rfl) (by kernel_rfl) (by kernel_rfl) (fun _ _ _ h => h) (Or.inl ⟨by rfl, fun w _ => by rfl⟩) (mv0 (mv0 (mv0 (Mv.alloc _ W3 M0) (Mv.alloc _ _ A0)) (Mv.drew _ _)) hm2) ?_
              try simp only [Act.put]
              have hR := ready_Mec (W := W3) hm2 hds
              have HR : Hid (Ready W3 w2 (W3.heap.size + 1) W3.heap.size (.int .i64 n0) (.int .i64 n1) (.string s2) (.string s3) (.slice o4 l4 q4) (.slice o5 l5 q5) (.slice o6 l6 q6) (.slice o7 l7 q7) (.slice o8 l8 q8) dR) := hR
              obtain ⟨⟨k0, k1, k2, k3, k4, k5, k6, k7, k8⟩, kf⟩ := facts9 hR.a
              have f0 := kf 0; have f1 := kf 1; have f2 := kf 2; have f3 := kf 3; have f4 := kf 4; have f5 := kf 5; have f6 := kf 6; have f7 := kf 7; have f8 := kf 8
              clear hR kf hm2 hds
              refine wpAnyH_ready (rs := [18]) (by kernel_rfl) (by simp) ?_
              refine AllReadyH.cons rfl (fun K' hK => ?_) AllReadyH.nil
              go_simp
              clear k0 k1 k2 k3 k4 k5 k6 k7 k8 f0 f1 f2 f3 f4 f5 f6 f7 f8
              obtain ⟨Y, hY⟩ : ∃ Y, bxw9 w2 (W3.heap.size + 1) (.int .i64 n0) (.int .i64 n1) (.string s2) (.string s3) (.slice o4 l4 q4) (.slice o5 l5 q5) (.slice o6 l6 q6) (.slice o7 l7 q7) (.slice o8 l8 q8) = Y := ⟨_, rfl⟩
              change K' _ (bxw9 w2 (W3.heap.size + 1) (.int .i64 n0) (.int .i64 n1) (.string s2) (.string s3) (.slice o4 l4 q4) (.slice o5 l5 q5) (.slice o6 l6 q6) (.slice o7 l7 q7) (.slice o8 l8 q8))
              rw [hY]
              refine hK.out _ _ (by rw [← hY]; exact bxw9_mv _ _ _ _ _ _ _ _ _ HR.out.mv HR.out.hp) (fun _ => ?_)
              clear hK K'
              try simp only [Act.put]
              obtain ⟨k0, k1, f0, f1⟩ := facts2 (show Y.heap[W3.heap.size]? = some M0 by rw [← hY]; exact (bxw9_far _ _ _ _ _ _ _ _ _ (Ne.symm HR.out.ne)).trans HR.out.m)
              have HY : Hid (bxw9 w2 (W3.heap.size + 1) (.int .i64 n0) (.int .i64 n1) (.string s2) (.string s3) (.slice o4 l4 q4) (.slice o5 l5 q5) (.slice o6 l6 q6) (.slice o7 l7 q7) (.slice o8 l8 q8) = Y) := hY
              clear hY
              refine wpAnyH_ready (rs := [19]) (by kernel_rfl) (by simp) ?_
              refine AllReadyH.cons rfl (fun K' hK => ?_) AllReadyH.nil
              go_simp
              clear k0 k1 f0 f1
              change K' _ (bxw2 Y W3.heap.size (.int .i64 0) (.int .i64 0))
              refine hK.out _ _ (bxw2_mv _ _ (by rw [← HY.out]; exact bxw9_mv _ _ _ _ _ _ _ _ _ HR.out.mv HR.out.hp) HR.out.hq) (fun _ => ?_)
              clear hK K'
              try simp only [Act.put]
              refine wpAnyH_done (by kernel_rfl) ?_ _
              go_wp2_with fail
              go_meet
              exact HR.out.after HY.out
      case rest =>
      obtain ⟨pr, qr, vr, rfl, rfl, hm4, hb⟩ := hcut.out.boxed
      clear hcut HE3
      have hE := HBe3.out.mv hm4
      have hL := HBl.out.mv hm4
      have l1 := cell_mv hm4 (HL3.out NA HN.out.1) id
      have l2 := cell_mv hm4 (HL3.out NB HN.out.2) id
      have HM4 : Hid (Mv (fun _ => False) w wc) := mv0 HW.out.1 hm4
      clear hm4 HL3 HW HBe3 HBl c1 c2 s1 s2
      obtain ⟨e0, e1, e2, e3, e4, e5, e6, e7, e8, rfl, ⟨p0, p1, p2, p3, p4, p5, p6, p7, p8⟩, pq, haE⟩ := hE
      obtain ⟨f0, f1, f2, f3, f4, f5, f6, f7, f8, rfl, ⟨q0, q1, q2, q3, q4, q5, q6, q7, q8⟩, qq, haL⟩ := hL
      obtain ⟨g0, g1, g2, g3, g4, g5, g6, g7, g8, rfl, ⟨r0, r1, r2, r3, r4, r5, r6, r7, r8⟩, rq, haR⟩ := hb
      simp only [Nat.zero_add] at p1 p2 p3 p4 p5 p6 p7 p8 q1 q2 q3 q4 q5 q6 q7 q8 r1 r2 r3 r4 r5 r6 r7 r8
      obtain ⟨x, hx⟩ : ∃ x : Int, (lvB NA : Int) = x := ⟨_, rfl⟩
      obtain ⟨y, hy⟩ : ∃ y : Int, (lvB NB : Int) = y := ⟨_, rfl⟩
      rw [hx] at l1
      rw [hy] at l2
      by_cases hl : lvB NB > lvB NA
      · have HT : Hid (Tru 12 wc (.agg #[e0, e1, e2, e3, e4, e5, e6, e7, e8]) (.agg #[g0, g1, g2, g3, g4, g5, g6, g7, g8])) := same_all 8 dE (HLv.out.2.2.2.1 hl).2 wc _ _ haE (by rw [(HLv.out.2.2.2.1 hl).1]; exact haR)
        have hl' : x < y := by omega
        clear haE haL haR HLv q0 q1 q2 q3 q4 q5 q6 q7 q8 HS HN hl hy hx
        go_wp2_with fail
        go_quiet (fail)
        go_wp2_with fail
        refine (HT.out _ (Mv.drewN _ _ _)).mono ?_
        rintro e w5 ⟨rfl, hm5⟩
        have HM5 : Hid (Mv (fun _ => False) w w5) := mv0 (mv0 HM4.out (Mv.drewN _ _ _)) hm5
        clear hm5
        go_wp2_with fail
        go_ret
        exact ⟨rfl, HM5.out⟩
      · have HT : Hid (Tru 12 wc (.agg #[e0, e1, e2, e3, e4, e5, e6, e7, e8]) (.agg #[f0, f1, f2, f3, f4, f5, f6, f7, f8])) := same_all 8 dE (HLv.out.2.2.2.2 hl).2 wc _ _ haE (by rw [(HLv.out.2.2.2.2 hl).1]; exact haL)
        have hl' : ¬ x < y := by omega
        clear haE haL haR HLv r0 r1 r2 r3 r4 r5 r6 r7 r8 HS HN hl hy hx
        go_wp2_with fail
        go_quiet (fail)
        go_wp2_with fail
        refine (HT.out _ (Mv.drewN _ _ _)).mono ?_
        rintro e w5 ⟨rfl, hm5⟩
        have HM5 : Hid (Mv (fun _ => False) w w5) := mv0 (mv0 HM4.out (Mv.drewN _ _ _)) hm5
        clear hm5
        go_wp2_with fail
        go_ret
        exact ⟨rfl, HM5.out⟩

end Go.Proofs.YthmdgbmodgfcmaaGreatDoor
