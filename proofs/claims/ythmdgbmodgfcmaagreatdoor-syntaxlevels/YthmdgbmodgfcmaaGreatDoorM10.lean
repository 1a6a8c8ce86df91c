/-
  LSmall, LKeys, LKeys2.
-/
import Derived.BigQuiet
import Derived.Deep.QuietTactic
import Derived.Handy
import Derived.WalkKit
import Derived.WalkLawsBesides
import Derived.WalkSpells
import Derived.Test.YthmdgbmodgfcmaaGreatDoorRows
import Derived.Test.YthmdgbmodgfcmaaGreatDoorM1
import Derived.Test.YthmdgbmodgfcmaaGreatDoorM4
/-
  What the small functions of package lex and of its reference do: tests of a byte, mishaps.
-/
namespace Go.Proofs.YthmdgbmodgfcmaaGreatDoor
open Go.RowKit

theorem u8_beq (c d : UInt8) : (c == d) = ((c.toNat : Int) == (d.toNat : Int)) := by
  rw [Bool.eq_iff_iff]; simp [← UInt8.toNat_inj]; omega

theorem u8_le (c d : UInt8) : (decide (c ≤ d)) = decide ((c.toNat : Int) ≤ (d.toNat : Int)) := by
  rw [Bool.eq_iff_iff]; simp [UInt8.le_iff_toNat_le]

theorem isBl_int (c : UInt8) : isBl c = (((c.toNat : Int) == 9) || ((c.toNat : Int) == 10) || ((c.toNat : Int) == 13) || ((c.toNat : Int) == 32)) := by
  unfold isBl; simp only [u8_beq]; rfl

theorem isLet_int (c : UInt8) : isLet c = ((decide (97 ≤ (c.toNat : Int)) && decide ((c.toNat : Int) ≤ 122)) || (decide (65 ≤ (c.toNat : Int)) && decide ((c.toNat : Int) ≤ 90)) || ((c.toNat : Int) == 95)) := by
  unfold isLet; simp only [u8_le, u8_beq]; rfl

theorem isDig_int (c : UInt8) : isDig c = (decide (48 ≤ (c.toNat : Int)) && decide ((c.toNat : Int) ≤ 57)) := by
  unfold isDig; simp only [u8_le]; rfl

set_option maxHeartbeats 400000 in
theorem isBlank_any (c : UInt8) (w : World) : Calls Tryz.prog 67 #[.int .u8 (c.toNat : Int)] w fun e w' => e = .returned (.bool (isBl c)) ∧ w' = w := by
  go_enter Tryz.func67, Tryz.ntmps67
  go_wp2
  all_goals go_ret
  all_goals (refine ⟨?_, rfl⟩; rw [isBl_int]; simp [*])

set_option maxHeartbeats 400000 in
theorem isLetter_any (c : UInt8) (w : World) : Calls Tryz.prog 70 #[.int .u8 (c.toNat : Int)] w fun e w' => e = .returned (.bool (isLet c)) ∧ w' = w := by
  go_enter Tryz.func70, Tryz.ntmps70
  go_wp2
  all_goals go_ret
  all_goals (refine ⟨?_, rfl⟩; rw [isLet_int]; first | (simp [*]; done) | (simp [*]; omega) | (simp [*]; rw [Bool.eq_iff_iff]; simp; omega))

set_option maxHeartbeats 400000 in
theorem isDigit_any (c : UInt8) (w : World) : Calls Tryz.prog 72 #[.int .u8 (c.toNat : Int)] w fun e w' => e = .returned (.bool (isDig c)) ∧ w' = w := by
  go_enter Tryz.func72, Tryz.ntmps72
  go_wp2
  all_goals go_ret
  all_goals (refine ⟨?_, rfl⟩; rw [isDig_int]; first | (simp [*]; done) | (simp [*]; omega) | (simp [*]; rw [Bool.eq_iff_iff]; simp; omega))

set_option maxHeartbeats 400000 in
theorem Letter_any (c : UInt8) (w : World) : Calls Tryz.prog 37 #[.int .u8 (c.toNat : Int)] w fun e w' => e = .returned (.bool (isLet c)) ∧ w' = w := by
  go_enter Tryz.func37, Tryz.ntmps37
  go_wp2
  all_goals go_ret
  all_goals (refine ⟨?_, rfl⟩; rw [isLet_int]; first | (simp [*]; done) | (simp [*]; omega) | (simp [*]; rw [Bool.eq_iff_iff]; simp; omega))

set_option maxHeartbeats 400000 in
theorem digit_any (c : UInt8) (w : World) : Calls Tryz.prog 38 #[.int .u8 (c.toNat : Int)] w fun e w' => e = .returned (.bool (isDig c)) ∧ w' = w := by
  go_enter Tryz.func38, Tryz.ntmps38
  go_wp2
  all_goals go_ret
  all_goals (refine ⟨?_, rfl⟩; rw [isDig_int]; first | (simp [*]; done) | (simp [*]; omega) | (simp [*]; rw [Bool.eq_iff_iff]; simp; omega))

set_option maxHeartbeats 400000 in
theorem isLoD_any (c : UInt8) (w : World) : Calls Tryz.prog 96 #[.int .u8 (c.toNat : Int)] w fun e w' => e = .returned (.bool (isLD c)) ∧ w' = w := by
  cases h : isLet c
  · go_enter Tryz.func96, Tryz.ntmps96
    go_wp2_with (first
      | (go_at_call 70; refine (isLetter_any c _).mono ?_; rintro e w1 ⟨rfl, rfl⟩; rw [h])
      | (go_at_call 72; refine (isDigit_any c _).mono ?_; rintro e w1 ⟨rfl, rfl⟩))
    go_ret
    exact ⟨by rw [isLD, h]; simp, rfl⟩
  · go_enter Tryz.func96, Tryz.ntmps96
    go_wp2_with (first
      | (go_at_call 70; refine (isLetter_any c _).mono ?_; rintro e w1 ⟨rfl, rfl⟩; rw [h])
      | (go_at_call 72; refine (isDigit_any c _).mono ?_; rintro e w1 ⟨rfl, rfl⟩))
    go_ret
    exact ⟨by rw [isLD, h]; simp, rfl⟩

set_option maxHeartbeats 400000 in
theorem mishap_any (c p : Int) (w : World) : Calls Tryz.prog 49 #[.int .i64 c, .int .i64 p] w fun e w' => e = .returned (.agg #[.int .i64 c, .int .i64 p]) ∧ Kept [] w w' := by
  go_enter Tryz.func49, Tryz.ntmps49
  go_wp2
  go_returns
  exact ⟨rfl, Kept.alloc _ _ _⟩

end Go.Proofs.YthmdgbmodgfcmaaGreatDoor
/-
  What the tests for reserved words do, of package lex and of its reference.
-/
namespace Go.Proofs.YthmdgbmodgfcmaaGreatDoor
open Go.RowKit

theorem ret_true {l : List UInt8} {L : List (List UInt8)} (h : l ∈ L) : Ending.returned (.bool true) = .returned (.bool (decide (l ∈ L))) := by rw [decide_eq_true h]
theorem ret_false {l : List UInt8} {L : List (List UInt8)} (h : ¬ l ∈ L) : Ending.returned (.bool false) = .returned (.bool (decide (l ∈ L))) := by rw [decide_eq_false h]

set_option maxHeartbeats 8000000 in
set_option maxRecDepth 100000 in
theorem isPair_any (s : ByteArray) (w : World) : Calls Tryz.prog 101 #[.string s] w fun e w' => e = .returned (.bool (decide (s.toList ∈ pairs))) ∧ w' = w := by
  by_cases h : s.toList ∈ pairs
  · have HM : Hid (s.toList ∈ pairs) := h
    simp only [pairs, List.mem_cons, List.not_mem_nil, or_false] at h
    rcases h with h | h | h | h | h | h | h | h | h | h | h | h | h | h
    all_goals
      go_enter Tryz.func101, Tryz.ntmps101
      go_wp2
      go_ret
      exact ⟨ret_true HM.out, rfl⟩
  · have HM : Hid (¬ s.toList ∈ pairs) := h
    simp only [pairs, List.mem_cons, List.not_mem_nil, or_false, not_or, ← ne_eq, ← beq_eq_false_iff_ne] at h
    obtain ⟨h0, h1, h2, h3, h4, h5, h6, h7, h8, h9, h10, h11, h12, h13⟩ := h
    go_enter Tryz.func101, Tryz.ntmps101
    go_wp2
    go_ret
    exact ⟨ret_false HM.out, rfl⟩

set_option maxHeartbeats 8000000 in
set_option maxRecDepth 100000 in
theorem two_any (s : ByteArray) (w : World) : Calls Tryz.prog 41 #[.string s] w fun e w' => e = .returned (.bool (decide (s.toList ∈ pairs))) ∧ w' = w := by
  by_cases h : s.toList ∈ pairs
  · have HM : Hid (s.toList ∈ pairs) := h
    simp only [pairs, List.mem_cons, List.not_mem_nil, or_false] at h
    rcases h with h | h | h | h | h | h | h | h | h | h | h | h | h | h
    all_goals
      go_enter Tryz.func41, Tryz.ntmps41
      go_wp2
      go_ret
      exact ⟨ret_true HM.out, rfl⟩
  · have HM : Hid (¬ s.toList ∈ pairs) := h
    simp only [pairs, List.mem_cons, List.not_mem_nil, or_false, not_or, ← ne_eq, ← beq_eq_false_iff_ne] at h
    obtain ⟨h0, h1, h2, h3, h4, h5, h6, h7, h8, h9, h10, h11, h12, h13⟩ := h
    go_enter Tryz.func41, Tryz.ntmps41
    go_wp2
    go_ret
    exact ⟨ret_false HM.out, rfl⟩

set_option maxHeartbeats 8000000 in
set_option maxRecDepth 100000 in
theorem isSign_any (s : ByteArray) (w : World) : Calls Tryz.prog 102 #[.string s] w fun e w' => e = .returned (.bool (decide (s.toList ∈ signs))) ∧ w' = w := by
  by_cases h : s.toList ∈ signs
  · have HM : Hid (s.toList ∈ signs) := h
    simp only [signs, List.mem_cons, List.not_mem_nil, or_false] at h
    rcases h with h | h | h | h | h | h | h | h | h | h | h | h | h | h | h | h | h | h | h | h | h | h | h | h | h
    all_goals
      go_enter Tryz.func102, Tryz.ntmps102
      go_wp2
      go_ret
      exact ⟨ret_true HM.out, rfl⟩
  · have HM : Hid (¬ s.toList ∈ signs) := h
    simp only [signs, List.mem_cons, List.not_mem_nil, or_false, not_or, ← ne_eq, ← beq_eq_false_iff_ne] at h
    obtain ⟨h0, h1, h2, h3, h4, h5, h6, h7, h8, h9, h10, h11, h12, h13, h14, h15, h16, h17, h18, h19, h20, h21, h22, h23, h24⟩ := h
    go_enter Tryz.func102, Tryz.ntmps102
    go_wp2
    go_ret
    exact ⟨ret_false HM.out, rfl⟩

end Go.Proofs.YthmdgbmodgfcmaaGreatDoor
/-
  What the tests for reserved words do, of package lex and of its reference.
-/
namespace Go.Proofs.YthmdgbmodgfcmaaGreatDoor
open Go.RowKit

set_option maxHeartbeats 8000000 in
set_option maxRecDepth 100000 in
theorem isKeyName_any (s : ByteArray) (w : World) : Calls Tryz.prog 98 #[.string s] w fun e w' => e = .returned (.bool (decide (s.toList ∈ keyNames))) ∧ w' = w := by
  by_cases h : s.toList ∈ keyNames
  · have HM : Hid (s.toList ∈ keyNames) := h
    simp only [keyNames, List.mem_cons, List.not_mem_nil, or_false] at h
    rcases h with h | h | h | h | h | h | h | h | h | h | h | h | h | h | h | h | h | h | h | h | h | h | h | h | h | h | h | h | h | h | h | h | h | h | h | h | h | h | h | h | h | h | h
    all_goals
      go_enter Tryz.func98, Tryz.ntmps98
      go_wp2
      go_ret
      exact ⟨ret_true HM.out, rfl⟩
  · have HM : Hid (¬ s.toList ∈ keyNames) := h
    simp only [keyNames, List.mem_cons, List.not_mem_nil, or_false, not_or, ← ne_eq, ← beq_eq_false_iff_ne] at h
    obtain ⟨h0, h1, h2, h3, h4, h5, h6, h7, h8, h9, h10, h11, h12, h13, h14, h15, h16, h17, h18, h19, h20, h21, h22, h23, h24, h25, h26, h27, h28, h29, h30, h31, h32, h33, h34, h35, h36, h37, h38, h39, h40, h41, h42⟩ := h
    go_enter Tryz.func98, Tryz.ntmps98
    go_wp2
    go_ret
    exact ⟨ret_false HM.out, rfl⟩

end Go.Proofs.YthmdgbmodgfcmaaGreatDoor
