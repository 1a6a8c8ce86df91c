/-
  SDeepWalk.
-/
import Derived.Deep.LoopGhost
import Derived.Test.YthmdgbmodgfcmaaGreatDoorM48
/-
  SyntaxDeep: it answers true.
-/
namespace Go.Proofs.YthmdgbmodgfcmaaGreatDoor
open Go.RowKit

/-- Between two rounds of the loop that makes the text. -/
structure MidS (bl : Bool) (i : Nat) (H T : ByteArray) : Prop where
  h : H = strOfL (heads bl i)
  t : T = strOfL (if bl then tails i else [])
  hs : H.size = 2 * i
  ts : T.size ≤ 2 * i

theorem strOfL_append (a b : List UInt8) : strOfL a ++ strOfL b = strOfL (a ++ b) := by
  show ByteArray.mk _ = ByteArray.mk _
  simp [strOfL]

theorem MidS.zero (bl : Bool) : MidS bl 0 ⟨#[]⟩ ⟨#[]⟩ := ⟨rfl, by cases bl <;> rfl, rfl, Nat.le_refl _⟩
theorem MidS.yes {i : Nat} {H T : ByteArray} (h : MidS true i H T) : MidS true (i + 1) (H ++ ⟨#[123, 32]⟩) (T ++ ⟨#[32, 125]⟩) := by
  refine ⟨?_, ?_, ?_, ?_⟩
  · rw [h.h]; exact strOfL_append _ [123, 32]
  · rw [h.t]; exact strOfL_append _ [32, 125]
  · rw [ByteArray.size_append, h.hs]; show 2 * i + 2 = _; omega
  · rw [ByteArray.size_append]; have := h.ts; show T.size + 2 ≤ _; omega
theorem MidS.no {i : Nat} {H T : ByteArray} (h : MidS false i H T) : MidS false (i + 1) (H ++ ⟨#[33, 32]⟩) T := by
  refine ⟨?_, h.t, ?_, ?_⟩
  · rw [h.h]; exact strOfL_append _ [33, 32]
  · rw [ByteArray.size_append, h.hs]; show 2 * i + 2 = _; omega
  · have := h.ts; omega

theorem deepB_text {i : Nat} {H T : ByteArray} (h : MidS true i H T) : (((⟨#[105, 110, 105, 116, 32, 123, 32]⟩ : ByteArray) ++ H ++ ⟨#[115, 107, 105, 112]⟩) ++ T) ++ ⟨#[32, 125]⟩ = strOfL (deepB i) := by
  rw [h.h, h.t]
  show (((strOfL [105, 110, 105, 116, 32, 123, 32] ++ strOfL (heads true i)) ++ strOfL [115, 107, 105, 112]) ++ strOfL (tails i)) ++ strOfL [32, 125] = _
  rw [strOfL_append, strOfL_append, strOfL_append, strOfL_append]
  rfl
theorem deepE_text {i : Nat} {H T : ByteArray} (h : MidS false i H T) : H ++ ⟨#[120]⟩ = strOfL (deepE i) := by
  rw [h.h]
  exact strOfL_append _ [120]

/-- What Parse, Expr give of such texts: a mishap's code and place. -/
theorem deepB_gives {i : Nat} (hi : i < 120) (w : World) (hG : G w) (hT : TN w) : Calls Tryz.prog 8 #[.string (strOfL (deepB i))] w fun e w' => ∃ ao l c, e = .returned (.tuple #[.slice ao l c, .agg #[.int .i64 (if i < 60 then 0 else 3), .int .i64 0]]) ∧ Mv (fun _ => False) w w' := by
  have h := vB_all i hi
  unfold okB at h
  split at h
  · rename_i hlt
    obtain ⟨ds, hds⟩ := isOk_some h
    refine (Parse_of _ _ hds w hG hT).mono ?_
    rintro e w' ⟨hm, v, els, rfl, rfl, hd⟩
    obtain ⟨ao, c, rfl⟩ := hd.sliceL
    exact ⟨_, _, _, by rw [if_pos hlt]; rfl, hm⟩
  · rename_i hlt
    refine (Parse_of _ _ (isErr_some h) w hG hT).mono ?_
    rintro e w' ⟨hm, rfl⟩
    exact ⟨none, 0, 0, by rw [if_neg hlt]; rfl, hm⟩
theorem deepE_gives {i : Nat} (hi : i < 120) (w : World) (hG : G w) (hT : TN w) : Calls Tryz.prog 11 #[.string (strOfL (deepE i))] w fun e w' => ∃ (n0 n1 : Int) (s2 s3 : ByteArray) (o4 o5 o6 o7 o8 : Option Addr) (l4 l5 l6 l7 l8 c4 c5 c6 c7 c8 : Nat),
    e = .returned (.tuple #[.agg #[.int .i64 n0, .int .i64 n1, .string s2, .string s3, .slice o4 l4 c4, .slice o5 l5 c5, .slice o6 l6 c6, .slice o7 l7 c7, .slice o8 l8 c8], .agg #[.int .i64 (if i < 60 then 0 else 3), .int .i64 0]]) ∧ Mv (fun _ => False) w w' := by
  have h := vE_all i hi
  unfold okE at h
  split at h
  · rename_i hlt
    obtain ⟨ds, hds⟩ := isOk_some h
    refine (Expr_of _ _ hds w hG hT).mono ?_
    rintro e w' ⟨hm, v, rfl, n0, n1, s2, s3, v4, v5, v6, v7, v8, rfl, hsh, hd⟩
    obtain ⟨k0, k1, k2, k3, r4, r5, r6, r7, r8, rfl⟩ := shAst_some hsh
    obtain ⟨u4, h4, e4⟩ := hd 4 _ rfl
    obtain ⟨u5, h5, e5⟩ := hd 5 _ rfl
    obtain ⟨u6, h6, e6⟩ := hd 6 _ rfl
    obtain ⟨u7, h7, e7⟩ := hd 7 _ rfl
    obtain ⟨u8, h8, e8⟩ := hd 8 _ rfl
    cases h4; cases h5; cases h6; cases h7; cases h8
    obtain ⟨o4, l4, q4, rfl⟩ := e4.slice
    obtain ⟨o5, l5, q5, rfl⟩ := e5.slice
    obtain ⟨o6, l6, q6, rfl⟩ := e6.slice
    obtain ⟨o7, l7, q7, rfl⟩ := e7.slice
    obtain ⟨o8, l8, q8, rfl⟩ := e8.slice
    exact ⟨_, _, _, _, _, _, _, _, _, _, _, _, _, _, _, _, _, _, _, by rw [if_pos hlt]; rfl, hm⟩
  · rename_i hlt
    refine (Expr_of _ _ (isErr_some h) w hG hT).mono ?_
    rintro e w' ⟨hm, rfl⟩
    exact ⟨0, 0, ⟨#[]⟩, ⟨#[]⟩, none, none, none, none, none, 0, 0, 0, 0, 0, 0, 0, 0, 0, 0, by rw [if_neg hlt]; rfl, hm⟩

set_option maxHeartbeats 8000000 in
theorem SyntaxDeep_walk (a : Int) (bl : Bool) (ha1 : -9223372036854775808 ≤ a) (ha2 : a ≤ 9223372036854775807) (w : World) (hG : G w) (hTN : TN w) : Calls Tryz.prog 6 #[.int .i64 a, .bool bl] w fun e w' => e = .returned (.bool true) ∧ Mv (fun _ => False) w w' := by
  have HB : Hid (∀ w, G w → TN w → Calls Tryz.prog 7 #[] w fun e w' => e = .returned (.bool true) ∧ Mv (fun _ => False) w w') := fun w h1 h2 => awake_any w h1 h2
  have HG : Hid (G w ∧ TN w) := ⟨hG, hTN⟩
  clear hG hTN
  obtain ⟨M, hM⟩ : ∃ M : Int, (if a < 0 then -(a + 1) else a) = M := ⟨_, rfl⟩
  have hM0 : 0 ≤ M := by rw [← hM]; split <;> omega
  have hM1 : M ≤ 9223372036854775807 := by rw [← hM]; split <;> omega
  obtain ⟨N, hN⟩ : ∃ N : Nat, M.tmod 120 = (N : Int) := ⟨(M.toNat % 120), by
    obtain ⟨k, rfl⟩ : ∃ k : Nat, M = (k : Int) := ⟨M.toNat, by omega⟩
    rw [Int.toNat_natCast]; rfl⟩
  have hN2 : N < 120 := by have := Int.tmod_lt_of_pos M (show (0 : Int) < 120 by omega); omega
  have hNi : ((N : Int)) < 120 := by omega
  have h1 : Hid (a < 0 → wrap64 (a + 1) = a + 1) := fun h => by unfold wrap64; omega
  have h2 : Hid (a < 0 → wrap64 (-(a + 1)) = M) := fun h => by rw [if_pos h] at hM; rw [hM]; unfold wrap64; omega
  have h3 : Hid (¬ a < 0 → a = M) := fun h => by rw [if_neg h] at hM; exact hM
  clear hM ha1 ha2 hM0 hM1
  go_enter Tryz.func6, Tryz.ntmps6
  go_wp2_with fail
  refine (HB.out _ HG.out.1 HG.out.2).mono ?_
  rintro e w1 ⟨rfl, hm1⟩
  have HM1 : Hid (Mv (fun _ => False) w w1) := hm1
  have HG1 : Hid (G w1 ∧ TN w1) := ⟨HG.out.1.mv hm1 id, HG.out.2.mv hm1 id⟩
  clear hm1 HB HG
  have h4 : Hid ((¬ a < 0 → a.tmod 120 = (N : Int)) ∧ (a < 0 ∨ 0 ≤ a)) := ⟨fun h => by rw [h3.out (by omega)]; exact hN, by omega⟩
  rcases h4.out.2 with ha | ha
  · have h1' := h1.out ha
    have h2' := h2.out ha
    clear h1 h2 h3 h4
    go_wp2_with fail
    cases bl with
    | true => 
      go_loopw [6, 7, 8] (fun hv tv iv wr => ∃ (i : Nat) (H T : ByteArray), i ≤ N ∧ hv = .string H ∧ tv = .string T ∧ iv = .int .i64 ((i : Int) + 1) ∧ Hid (MidS true i H T) ∧ wr = w1) (fun _ _ iv _ => 200 - (intOf iv).toNat)
      case atStart => exact ⟨0, ⟨#[]⟩, ⟨#[]⟩, Nat.zero_le _, rfl, rfl, rfl, MidS.zero _, rfl⟩
      case round =>
        obtain ⟨i, H, T, hi, rfl, rfl, rfl, HS, rfl⟩ := hrel
        have hH : H.size = 2 * i := HS.out.hs
        have hT : T.size ≤ 2 * i := HS.out.ts
        by_cases hj : i < N
        · have hj' : (i : Int) + 1 < (N : Int) + 1 := by omega
          go_wp2_with fail
          go_roundw
          case rel => exact ⟨i + 1, _, _, hj, rfl, rfl, by congr 1, HS.out.yes, trivial⟩
          case measure => simp [intOf]; omega
        · have hj' : ¬ (i : Int) + 1 < (N : Int) + 1 := by omega
          obtain rfl : i = N := by omega
          have HC : Hid (∀ w, G w → TN w → Calls Tryz.prog 8 #[.string ((((⟨#[105, 110, 105, 116, 32, 123, 32]⟩ : ByteArray) ++ H ++ ⟨#[115, 107, 105, 112]⟩) ++ T) ++ ⟨#[32, 125]⟩)] w fun e w' => ∃ ao l c, e = .returned (.tuple #[.slice ao l c, .agg #[.int .i64 (if i < 60 then 0 else 3), .int .i64 0]]) ∧ Mv (fun _ => False) w w') := fun w hG hT => by rw [deepB_text HS.out]; exact deepB_gives hN2 w hG hT
          clear hj hi HS
          go_wp2_with fail
          refine (HC.out _ HG1.out.1 HG1.out.2).mono ?_
          rintro e w2 ⟨ao, l, c, rfl, hm2⟩
          have HM2 : Hid (Mv (fun _ => False) w w2) := HM1.out.trans hm2 (fun _ h => h.elim)
          clear hm2 HC HG1 HM1 hH hT
          by_cases h6 : i < 60
          · have h6' : (i : Int) + 1 ≤ 60 := by omega
            rw [if_pos h6]
            go_wp2_with fail
            go_ret
            exact ⟨rfl, HM2.out.trans (Mv.alloc (fun _ => False) _ _) (fun _ h => h.elim)⟩
          · have h6' : ¬ (i : Int) + 1 ≤ 60 := by omega
            rw [if_neg h6]
            go_wp2_with fail
            go_ret
            exact ⟨by rw [show decide ((i : Int) + 1 ≤ 60) = false from decide_eq_false (by omega)]; rfl, HM2.out.trans (Mv.alloc (fun _ => False) _ _) (fun _ h => h.elim)⟩
    | false => 
      go_loopw [6, 7, 8] (fun hv tv iv wr => ∃ (i : Nat) (H T : ByteArray), i ≤ N ∧ hv = .string H ∧ tv = .string T ∧ iv = .int .i64 ((i : Int) + 1) ∧ Hid (MidS false i H T) ∧ wr = w1) (fun _ _ iv _ => 200 - (intOf iv).toNat)
      case atStart => exact ⟨0, ⟨#[]⟩, ⟨#[]⟩, Nat.zero_le _, rfl, rfl, rfl, MidS.zero _, rfl⟩
      case round =>
        obtain ⟨i, H, T, hi, rfl, rfl, rfl, HS, rfl⟩ := hrel
        have hH : H.size = 2 * i := HS.out.hs
        have hT : T.size ≤ 2 * i := HS.out.ts
        by_cases hj : i < N
        · have hj' : (i : Int) + 1 < (N : Int) + 1 := by omega
          go_wp2_with fail
          go_roundw
          case rel => exact ⟨i + 1, _, _, hj, rfl, rfl, by congr 1, HS.out.no, trivial⟩
          case measure => simp [intOf]; omega
        · have hj' : ¬ (i : Int) + 1 < (N : Int) + 1 := by omega
          obtain rfl : i = N := by omega
          have HC : Hid (∀ w, G w → TN w → Calls Tryz.prog 11 #[.string (H ++ ⟨#[120]⟩)] w fun e w' => ∃ (n0 n1 : Int) (s2 s3 : ByteArray) (o4 o5 o6 o7 o8 : Option Addr) (l4 l5 l6 l7 l8 c4 c5 c6 c7 c8 : Nat), e = .returned (.tuple #[.agg #[.int .i64 n0, .int .i64 n1, .string s2, .string s3, .slice o4 l4 c4, .slice o5 l5 c5, .slice o6 l6 c6, .slice o7 l7 c7, .slice o8 l8 c8], .agg #[.int .i64 (if i < 60 then 0 else 3), .int .i64 0]]) ∧ Mv (fun _ => False) w w') := fun w hG hT => by rw [deepE_text HS.out]; exact deepE_gives hN2 w hG hT
          clear hj hi HS
          go_wp2_with fail
          refine (HC.out _ HG1.out.1 HG1.out.2).mono ?_
          rintro e w2 ⟨n0, n1, s2, s3, o4, o5, o6, o7, o8, l4, l5, l6, l7, l8, c4, c5, c6, c7, c8, rfl, hm2⟩
          have HM2 : Hid (Mv (fun _ => False) w w2) := HM1.out.trans hm2 (fun _ h => h.elim)
          clear hm2 HC HG1 HM1 hH hT
          by_cases h6 : i < 60
          · have h6' : (i : Int) + 1 ≤ 60 := by omega
            rw [if_pos h6]
            go_wp2_with fail
            go_ret
            exact ⟨rfl, (HM2.out.trans (Mv.alloc (fun _ => False) _ _) (fun _ h => h.elim)).trans (Mv.alloc (fun _ => False) _ _) (fun _ h => h.elim)⟩
          · have h6' : ¬ (i : Int) + 1 ≤ 60 := by omega
            rw [if_neg h6]
            go_wp2_with fail
            go_ret
            exact ⟨by rw [show decide ((i : Int) + 1 ≤ 60) = false from decide_eq_false (by omega)]; rfl, (HM2.out.trans (Mv.alloc (fun _ => False) _ _) (fun _ h => h.elim)).trans (Mv.alloc (fun _ => False) _ _) (fun _ h => h.elim)⟩
  · have h3' : a.tmod 120 = (N : Int) := h4.out.1 (by omega)
    have had : decide (a < 0) = false := decide_eq_false (by omega)
    clear h1 h2 h3 h4 hN ha
    go_wp2_with fail
    cases bl with
    | true => 
      go_loopw [6, 7, 8] (fun hv tv iv wr => ∃ (i : Nat) (H T : ByteArray), i ≤ N ∧ hv = .string H ∧ tv = .string T ∧ iv = .int .i64 ((i : Int) + 1) ∧ Hid (MidS true i H T) ∧ wr = w1) (fun _ _ iv _ => 200 - (intOf iv).toNat)
      case atStart => exact ⟨0, ⟨#[]⟩, ⟨#[]⟩, Nat.zero_le _, rfl, rfl, rfl, MidS.zero _, rfl⟩
      case round =>
        obtain ⟨i, H, T, hi, rfl, rfl, rfl, HS, rfl⟩ := hrel
        have hH : H.size = 2 * i := HS.out.hs
        have hT : T.size ≤ 2 * i := HS.out.ts
        by_cases hj : i < N
        · have hj' : (i : Int) + 1 < (N : Int) + 1 := by omega
          go_wp2_with fail
          go_roundw
          case rel => exact ⟨i + 1, _, _, hj, rfl, rfl, by congr 1, HS.out.yes, trivial⟩
          case measure => simp [intOf]; omega
        · have hj' : ¬ (i : Int) + 1 < (N : Int) + 1 := by omega
          obtain rfl : i = N := by omega
          have HC : Hid (∀ w, G w → TN w → Calls Tryz.prog 8 #[.string ((((⟨#[105, 110, 105, 116, 32, 123, 32]⟩ : ByteArray) ++ H ++ ⟨#[115, 107, 105, 112]⟩) ++ T) ++ ⟨#[32, 125]⟩)] w fun e w' => ∃ ao l c, e = .returned (.tuple #[.slice ao l c, .agg #[.int .i64 (if i < 60 then 0 else 3), .int .i64 0]]) ∧ Mv (fun _ => False) w w') := fun w hG hT => by rw [deepB_text HS.out]; exact deepB_gives hN2 w hG hT
          clear hj hi HS
          go_wp2_with fail
          refine (HC.out _ HG1.out.1 HG1.out.2).mono ?_
          rintro e w2 ⟨ao, l, c, rfl, hm2⟩
          have HM2 : Hid (Mv (fun _ => False) w w2) := HM1.out.trans hm2 (fun _ h => h.elim)
          clear hm2 HC HG1 HM1 hH hT
          by_cases h6 : i < 60
          · have h6' : (i : Int) + 1 ≤ 60 := by omega
            rw [if_pos h6]
            go_wp2_with fail
            go_ret
            exact ⟨rfl, HM2.out.trans (Mv.alloc (fun _ => False) _ _) (fun _ h => h.elim)⟩
          · have h6' : ¬ (i : Int) + 1 ≤ 60 := by omega
            rw [if_neg h6]
            go_wp2_with fail
            go_ret
            exact ⟨by rw [show decide ((i : Int) + 1 ≤ 60) = false from decide_eq_false (by omega)]; rfl, HM2.out.trans (Mv.alloc (fun _ => False) _ _) (fun _ h => h.elim)⟩
    | false => 
      go_loopw [6, 7, 8] (fun hv tv iv wr => ∃ (i : Nat) (H T : ByteArray), i ≤ N ∧ hv = .string H ∧ tv = .string T ∧ iv = .int .i64 ((i : Int) + 1) ∧ Hid (MidS false i H T) ∧ wr = w1) (fun _ _ iv _ => 200 - (intOf iv).toNat)
      case atStart => exact ⟨0, ⟨#[]⟩, ⟨#[]⟩, Nat.zero_le _, rfl, rfl, rfl, MidS.zero _, rfl⟩
      case round =>
        obtain ⟨i, H, T, hi, rfl, rfl, rfl, HS, rfl⟩ := hrel
        have hH : H.size = 2 * i := HS.out.hs
        have hT : T.size ≤ 2 * i := HS.out.ts
        by_cases hj : i < N
        · have hj' : (i : Int) + 1 < (N : Int) + 1 := by omega
          go_wp2_with fail
          go_roundw
          case rel => exact ⟨i + 1, _, _, hj, rfl, rfl, by congr 1, HS.out.no, trivial⟩
          case measure => simp [intOf]; omega
        · have hj' : ¬ (i : Int) + 1 < (N : Int) + 1 := by omega
          obtain rfl : i = N := by omega
          have HC : Hid (∀ w, G w → TN w → Calls Tryz.prog 11 #[.string (H ++ ⟨#[120]⟩)] w fun e w' => ∃ (n0 n1 : Int) (s2 s3 : ByteArray) (o4 o5 o6 o7 o8 : Option Addr) (l4 l5 l6 l7 l8 c4 c5 c6 c7 c8 : Nat), e = .returned (.tuple #[.agg #[.int .i64 n0, .int .i64 n1, .string s2, .string s3, .slice o4 l4 c4, .slice o5 l5 c5, .slice o6 l6 c6, .slice o7 l7 c7, .slice o8 l8 c8], .agg #[.int .i64 (if i < 60 then 0 else 3), .int .i64 0]]) ∧ Mv (fun _ => False) w w') := fun w hG hT => by rw [deepE_text HS.out]; exact deepE_gives hN2 w hG hT
          clear hj hi HS
          go_wp2_with fail
          refine (HC.out _ HG1.out.1 HG1.out.2).mono ?_
          rintro e w2 ⟨n0, n1, s2, s3, o4, o5, o6, o7, o8, l4, l5, l6, l7, l8, c4, c5, c6, c7, c8, rfl, hm2⟩
          have HM2 : Hid (Mv (fun _ => False) w w2) := HM1.out.trans hm2 (fun _ h => h.elim)
          clear hm2 HC HG1 HM1 hH hT
          by_cases h6 : i < 60
          · have h6' : (i : Int) + 1 ≤ 60 := by omega
            rw [if_pos h6]
            go_wp2_with fail
            go_ret
            exact ⟨rfl, (HM2.out.trans (Mv.alloc (fun _ => False) _ _) (fun _ h => h.elim)).trans (Mv.alloc (fun _ => False) _ _) (fun _ h => h.elim)⟩
          · have h6' : ¬ (i : Int) + 1 ≤ 60 := by omega
            rw [if_neg h6]
            go_wp2_with fail
            go_ret
            exact ⟨by rw [show decide ((i : Int) + 1 ≤ 60) = false from decide_eq_false (by omega)]; rfl, (HM2.out.trans (Mv.alloc (fun _ => False) _ _) (fun _ h => h.elim)).trans (Mv.alloc (fun _ => False) _ _) (fun _ h => h.elim)⟩

end Go.Proofs.YthmdgbmodgfcmaaGreatDoor
