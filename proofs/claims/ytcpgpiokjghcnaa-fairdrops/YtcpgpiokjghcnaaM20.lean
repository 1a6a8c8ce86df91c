/-
  NMay2.
-/
import Derived.Deep.RegionWith
import Derived.Test.YtcpgpiokjghcnaaM18
/-
  Which graphs may be: the program's arcMayBe, graphMayBe, Check.
-/
set_option linter.unusedVariables false
set_option linter.unusedSimpArgs false
namespace Go.Proofs.Ytcpgpiokjghcnaa
open Go.RowKit

theorem ladder (p1 p2 b1 b2 r1 r2 : Bool) : (p1 = false) ∨ (p1 = true ∧ p2 = false) ∨ (p1 = true ∧ p2 = true ∧ b1 = false) ∨ (p1 = true ∧ p2 = true ∧ b1 = true ∧ b2 = false) ∨ (p1 = true ∧ p2 = true ∧ b1 = true ∧ b2 = true ∧ r1 = false) ∨ (p1 = true ∧ p2 = true ∧ b1 = true ∧ b2 = true ∧ r1 = true ∧ r2 = false) ∨ (p1 = true ∧ p2 = true ∧ b1 = true ∧ b2 = true ∧ r1 = true ∧ r2 = true) := by
  cases p1 <;> cases p2 <;> cases b1 <;> cases b2 <;> cases r1 <;> cases r2 <;> decide

set_option maxHeartbeats 4000000 in
theorem arcMayBe_any (w : World) (B b o : Nat) (a : Arc) (size : Int) (h : ArcAt w B b o a) : Calls Try.prog 20 #[.pointer (some ⟨b, o, none⟩), .int .i64 size] w fun e w' =>
    e = .returned (.bool (decide (-1 ≤ a.proc) && decide (a.proc ≤ 15) && (decide (0 ≤ a.bad) && decide (a.bad ≤ 5)) && (decide (0 ≤ a.to) && decide (a.to < (if a.bad = 0 then size else 1))) && riseB a.reads && riseB a.writes)) ∧ w' = w := by
  obtain ⟨c0, c1, c2, ⟨_, c3, ra, rc, rfl, hr⟩, ⟨_, c4, wa, wc, rfl, hw⟩, c5⟩ := h
  obtain ⟨proc, to, bad, reads, writes, turns⟩ := a
  simp only at *
  obtain ⟨T, hT⟩ : ∃ T : Int, (if bad = 0 then size else 1) = T := ⟨_, rfl⟩
  have HRI : Hid (IntsAt w B ra reads) := hr
  have HWI : Hid (IntsAt w B wa writes) := hw
  clear hr hw
  rw [hT]
  rcases ladder (decide (-1 ≤ proc)) (decide (proc ≤ 15)) (decide (0 ≤ bad) && decide (bad ≤ 5)) (decide (0 ≤ to) && decide (to < T)) (riseB reads) (riseB writes) with q1 | ⟨q1, q2⟩ | ⟨q1, q2, hb1⟩ | ⟨q1, q2, hb1, hb2⟩ | ⟨q1, q2, hb1, hb2, hr1⟩ | ⟨q1, q2, hb1, hb2, hr1, hr2⟩ | ⟨q1, q2, hb1, hb2, hr1, hr2⟩
  all_goals
    try rw [q1]
    try rw [q2]
    try rw [hb1]
    try rw [hb2]
    try rw [hr1]
    try rw [hr2]
    simp only [Bool.true_and, Bool.and_true, Bool.false_and, Bool.and_false]
    try simp only [decide_eq_true_eq, decide_eq_false_iff_not] at q1
    try simp only [decide_eq_true_eq, decide_eq_false_iff_not] at q2
    by_cases hbad : bad = 0
    all_goals
      first | (rw [if_pos hbad] at hT; subst hT; subst hbad) | (rw [if_neg hbad] at hT; subst hT)
      go_enter Try.func20, Try.ntmps20
      go_wp2_with (first | (go_at_call 29; refine (isBad_any _ _).mono ?_; rw [hb1]; rintro e w' ⟨rfl, rfl⟩) | (go_at_call 30; refine (below_any _ _ _).mono ?_; rw [hb2]; rintro e w' ⟨rfl, rfl⟩) | (go_at_call_of 31 (Value.slice ra reads.length rc); refine (rising_any _ B ra rc _ HRI.out).mono ?_; rw [hr1]; rintro e w' ⟨rfl, rfl⟩) | (go_at_call_of 31 (Value.slice wa writes.length wc); refine (rising_any _ B wa wc _ HWI.out).mono ?_; rw [hr2]; rintro e w' ⟨rfl, rfl⟩))
      go_ret
      exact ⟨rfl, rfl⟩

end Go.Proofs.Ytcpgpiokjghcnaa
