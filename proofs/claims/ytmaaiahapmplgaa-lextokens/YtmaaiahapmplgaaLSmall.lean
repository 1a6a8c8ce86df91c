/-
  What the small functions of package lex and of its reference do: tests of a byte, mishaps.
-/
import Derived.Test.YtmaaiahapmplgaaRows
import Derived.Test.YtmaaiahapmplgaaLPlain
import Derived.Test.YtmaaiahapmplgaaKit
import Derived.WalkKit
import Derived.WalkSpells
import Derived.WalkLawsBesides
import Derived.Deep.QuietTactic
import Derived.BigQuiet
import Derived.Handy
namespace Go.Proofs.Ytmaaiahapmplgaa
open Go.RowKit

theorem u8_beq (c d : UInt8) : (c == d) = ((c.toNat : Int) == (d.toNat : Int)) := by
  rw [Bool.eq_iff_iff]; simp [← UInt8.toNat_inj]; omega

theorem u8_le (c d : UInt8) : (decide (c ≤ d)) = decide ((c.toNat : Int) ≤ (d.toNat : Int)) := by
  rw [Bool.eq_iff_iff]; simp [UInt8.le_iff_toNat_le]

theorem isBl_int (c : UInt8) : isBl c = (((c.toNat : Int) == 9) || ((c.toNat : Int) == 10) || ((c.toNat : Int) == 13) || ((c.toNat : Int) == 32)) := by
  unfold isBl; simp only [u8_beq]; rfl

theorem isLet_int (c : UInt8) : isLet c = ((decide (97 ≤ (c.toNat : Int)) && decide ((c.toNat : Int) ≤ 122)) || (decide (65 ≤ (c.toNat : Int)) && decide ((c.toNat : Int) ≤ 90)) || ((c.toNat : Int) == 95)) := by
  unfold isLet; simp only [u8_le, u8_beq]; rfl

theorem isDig_int (c : UInt8) : isDig c = (decide (48 ≤ (c.toNat : Int)) && decide ((c.toNat : Int) ≤ 57)) := by
  unfold isDig; simp only [u8_le]; rfl

set_option maxHeartbeats 400000 in
theorem isBlank_any (c : UInt8) (w : World) : Calls Try.prog 27 #[.int .u8 (c.toNat : Int)] w fun e w' => e = .returned (.bool (isBl c)) ∧ w' = w := by
  go_enter Try.func27, Try.ntmps27
  go_wp2
  all_goals go_ret
  all_goals (refine ⟨?_, rfl⟩; rw [isBl_int]; simp [*])

set_option maxHeartbeats 400000 in
theorem isLetter_any (c : UInt8) (w : World) : Calls Try.prog 30 #[.int .u8 (c.toNat : Int)] w fun e w' => e = .returned (.bool (isLet c)) ∧ w' = w := by
  go_enter Try.func30, Try.ntmps30
  go_wp2
  all_goals go_ret
  all_goals (refine ⟨?_, rfl⟩; rw [isLet_int]; first | (simp [*]; done) | (simp [*]; omega) | (simp [*]; rw [Bool.eq_iff_iff]; simp; omega))

set_option maxHeartbeats 400000 in
theorem isDigit_any (c : UInt8) (w : World) : Calls Try.prog 32 #[.int .u8 (c.toNat : Int)] w fun e w' => e = .returned (.bool (isDig c)) ∧ w' = w := by
  go_enter Try.func32, Try.ntmps32
  go_wp2
  all_goals go_ret
  all_goals (refine ⟨?_, rfl⟩; rw [isDig_int]; first | (simp [*]; done) | (simp [*]; omega) | (simp [*]; rw [Bool.eq_iff_iff]; simp; omega))

set_option maxHeartbeats 400000 in
theorem Letter_any (c : UInt8) (w : World) : Calls Try.prog 36 #[.int .u8 (c.toNat : Int)] w fun e w' => e = .returned (.bool (isLet c)) ∧ w' = w := by
  go_enter Try.func36, Try.ntmps36
  go_wp2
  all_goals go_ret
  all_goals (refine ⟨?_, rfl⟩; rw [isLet_int]; first | (simp [*]; done) | (simp [*]; omega) | (simp [*]; rw [Bool.eq_iff_iff]; simp; omega))

set_option maxHeartbeats 400000 in
theorem digit_any (c : UInt8) (w : World) : Calls Try.prog 37 #[.int .u8 (c.toNat : Int)] w fun e w' => e = .returned (.bool (isDig c)) ∧ w' = w := by
  go_enter Try.func37, Try.ntmps37
  go_wp2
  all_goals go_ret
  all_goals (refine ⟨?_, rfl⟩; rw [isDig_int]; first | (simp [*]; done) | (simp [*]; omega) | (simp [*]; rw [Bool.eq_iff_iff]; simp; omega))

set_option maxHeartbeats 400000 in
theorem isLoD_any (c : UInt8) (w : World) : Calls Try.prog 42 #[.int .u8 (c.toNat : Int)] w fun e w' => e = .returned (.bool (isLD c)) ∧ w' = w := by
  cases h : isLet c
  · go_enter Try.func42, Try.ntmps42
    go_wp2_with (first
      | (go_at_call 30; refine (isLetter_any c _).mono ?_; rintro e w1 ⟨rfl, rfl⟩; rw [h])
      | (go_at_call 32; refine (isDigit_any c _).mono ?_; rintro e w1 ⟨rfl, rfl⟩))
    go_ret
    exact ⟨by rw [isLD, h]; simp, rfl⟩
  · go_enter Try.func42, Try.ntmps42
    go_wp2_with (first
      | (go_at_call 30; refine (isLetter_any c _).mono ?_; rintro e w1 ⟨rfl, rfl⟩; rw [h])
      | (go_at_call 32; refine (isDigit_any c _).mono ?_; rintro e w1 ⟨rfl, rfl⟩))
    go_ret
    exact ⟨by rw [isLD, h]; simp, rfl⟩

set_option maxHeartbeats 400000 in
theorem mishap_any (c p : Int) (w : World) : Calls Try.prog 15 #[.int .i64 c, .int .i64 p] w fun e w' => e = .returned (.agg #[.int .i64 c, .int .i64 p]) ∧ Kept [] w w' := by
  go_enter Try.func15, Try.ntmps15
  go_wp2
  go_returns
  exact ⟨rfl, Kept.alloc _ _ _⟩

end Go.Proofs.Ytmaaiahapmplgaa
