/-
  JMay1.
-/
import Derived.Deep.RegionWith
import Derived.Test.YtiinmaedmkgfoaaDoorM18
import Derived.Test.YtiinmaedmkgfoaaDoorM20
/-
  Which raw processes may be: the program's isValue, threadArcMayBe.
-/
set_option linter.unusedVariables false
set_option linter.unusedSimpArgs false
namespace Go.Proofs.YtiinmaedmkgfoaaDoor
open Go.RowKit

theorem inB_any (n b : Int) (w : World) : Calls Tryd.prog 40 #[.int .i64 n, .int .i64 b] w fun e w' => e = .returned (.bool (inB n b)) ∧ w' = w := below_any n b w
theorem badB_any (n : Int) (w : World) : Calls Tryd.prog 66 #[.int .i64 n] w fun e w' => e = .returned (.bool (badB n)) ∧ w' = w := isBad_any n w

theorem isValue_any (n : Int) (w : World) : Calls Tryd.prog 38 #[.int .i64 n] w fun e w' => e = .returned (.bool (isV n)) ∧ w' = w := by
  go_enter Tryd.func38, Tryd.ntmps38
  go_wp2_with (go_at_call 40; refine (below_any _ _ _).mono ?_; rintro e w' ⟨rfl, rfl⟩)
  go_ret
  exact ⟨rfl, rfl⟩

theorem tarc_cases (t p s q v x y z : Bool) : (t = true ∧ p = false) ∨ ((t = false ∨ (t = true ∧ p = true)) ∧ ((s = true ∧ q = false) ∨ (s = true ∧ q = true ∧ v = false) ∨ ((s = false ∨ (s = true ∧ q = true ∧ v = true)) ∧ (x = false ∨ (x = true ∧ y = false) ∨ (x = true ∧ y = true ∧ z = false) ∨ (x = true ∧ y = true ∧ z = true))))) := by
  cases t <;> cases p <;> cases s <;> cases q <;> cases v <;> cases x <;> cases y <;> cases z <;> decide

set_option maxHeartbeats 8000000 in
theorem tarc_any (w : World) (b o : Nat) (a : TA) (size objs : Int) (h : TAAt w b o a) : Calls Tryd.prog 57 #[.pointer (some ⟨b, o, none⟩), .int .i64 size, .int .i64 objs] w fun e w' => e = .returned (.bool (taB size objs a)) ∧ w' = w := by
  obtain ⟨c0, c1, c2, c3, c4, c5, c6, c7⟩ := h
  obtain ⟨to, test, object, value, set, setObject, setTo, bad⟩ := a
  simp only at *
  unfold taB
  simp only
  rcases tarc_cases test (inB object objs) set (inB setObject objs) (isV setTo) (isV value) (inB to size) (badB bad) with ⟨rfl, h2⟩ | ⟨rfl | ⟨rfl, h2⟩, ⟨rfl, h4⟩ | ⟨rfl, h4, h5⟩ | ⟨rfl | ⟨rfl, h4, h5⟩, h6 | ⟨h6, h7⟩ | ⟨h6, h7, h8⟩ | ⟨h6, h7, h8⟩⟩⟩
  all_goals
    try rw [h2]
    try rw [h4]
    try rw [h5]
    try rw [h6]
    try rw [h7]
    try rw [h8]
    simp only [Bool.true_and, Bool.and_true, Bool.false_and, Bool.and_false, Bool.not_true, Bool.not_false, Bool.true_or, Bool.false_or]
    go_enter Tryd.func57, Tryd.ntmps57
    go_wp2_with (first | (go_at_call 66; refine (badB_any _ _).mono ?_; rw [h8]; rintro e w' ⟨rfl, rfl⟩) | (go_at_call_of 40 (Value.int .i64 object); refine (inB_any _ _ _).mono ?_; rw [h2]; rintro e w' ⟨rfl, rfl⟩) | (go_at_call_of 40 (Value.int .i64 setObject); refine (inB_any _ _ _).mono ?_; rw [h4]; rintro e w' ⟨rfl, rfl⟩) | (go_at_call_of 40 (Value.int .i64 to); refine (inB_any _ _ _).mono ?_; rw [h7]; rintro e w' ⟨rfl, rfl⟩) | (go_at_call_of 38 (Value.int .i64 setTo); refine (isValue_any _ _).mono ?_; rw [h5]; rintro e w' ⟨rfl, rfl⟩) | (go_at_call_of 38 (Value.int .i64 value); refine (isValue_any _ _).mono ?_; rw [h6]; rintro e w' ⟨rfl, rfl⟩))
    go_ret
    exact ⟨rfl, rfl⟩

end Go.Proofs.YtiinmaedmkgfoaaDoor
