/-
  What pick does: which of n things a raw number speaks of.
-/
import Derived.Test.YtfbfdfenfcjolaaKnown
namespace Go.Proofs.Ytfbfdfenfcjolaa
open Go.RowKit

/-- Which of n things the raw number c speaks of. -/
def pickN (c n : Int) : Int := (if c < 0 then -(c + 1) else c) % n
theorem pickN_lo (c : Int) {n : Int} (h : 0 < n) : 0 ≤ pickN c n := Int.emod_nonneg _ (by omega)
theorem pickN_hi (c : Int) {n : Int} (h : 0 < n) : pickN c n < n := Int.emod_lt_of_pos _ h

set_option maxHeartbeats 400000 in
theorem pick_any (c n : Int) (w : World) (h0 : -9223372036854775808 ≤ c) (h1 : c ≤ 9223372036854775807) (hn : 0 < n) (hn1 : n ≤ 100) :
    Calls Try.prog 17 #[.int .i64 c, .int .i64 n] w fun e w' => e = .returned (.int .i64 (pickN c n)) ∧ w' = w := by
  have hz : (n == 0) = false := by simp; omega
  by_cases a : c < 0
  · have e : pickN c n = (-(c + 1)) % n := by unfold pickN; rw [if_pos a]
    have HE : Hid (pickN c n = (-(c + 1)) % n) := e
    clear e
    go_enter Try.func17, Try.ntmps17
    go_wp2
    go_ret
    exact ⟨ret_i64 (by rw [HE.out, ← Int.tmod_eq_emod_of_nonneg (by omega : 0 ≤ -(c + 1)), Int.neg_tmod]), rfl⟩
  · have e : pickN c n = c % n := by unfold pickN; rw [if_neg a]
    have HE : Hid (pickN c n = c % n) := e
    clear e
    have a' : 0 ≤ c := by omega
    go_enter Try.func17, Try.ntmps17
    go_wp2
    go_ret
    exact ⟨ret_i64 HE.out.symm, rfl⟩

end Go.Proofs.Ytfbfdfenfcjolaa
