/-
  NMay.
-/
import Derived.BigQuiet
import Derived.Deep.QuietTactic
import Derived.WalkKit
import Derived.WalkLawsBesides
import Derived.WalkSpells
import Derived.Test.YtcpgpiokjghcnaaM12
import Derived.Test.YtcpgpiokjghcnaaM2
/-
  Which graphs may be: the program's below, isBad, rising, arcMayBe, graphMayBe, Check.
-/
set_option linter.unusedVariables false
namespace Go.Proofs.Ytcpgpiokjghcnaa
open Go.RowKit

theorem below_any (n b : Int) (w : World) : Calls Try.prog 30 #[.int .i64 n, .int .i64 b] w fun e w' => e = .returned (.bool (decide (0 ≤ n) && decide (n < b))) ∧ w' = w := by
  by_cases h : 0 ≤ n
  · by_cases h1 : n < b
    · go_enter Try.func30, Try.ntmps30
      go_wp2
      go_ret
      exact ⟨congrArg (fun b => Ending.returned (.bool b)) (Bool.eq_iff_iff.2 (by simp; omega)), rfl⟩
    · go_enter Try.func30, Try.ntmps30
      go_wp2
      go_ret
      exact ⟨congrArg (fun b => Ending.returned (.bool b)) (Bool.eq_iff_iff.2 (by simp; omega)), rfl⟩
  · go_enter Try.func30, Try.ntmps30
    go_wp2
    go_ret
    exact ⟨congrArg (fun b => Ending.returned (.bool b)) (Bool.eq_iff_iff.2 (by simp; omega)), rfl⟩

theorem isBad_any (n : Int) (w : World) : Calls Try.prog 29 #[.int .i64 n] w fun e w' => e = .returned (.bool (decide (0 ≤ n) && decide (n ≤ 5))) ∧ w' = w := by
  by_cases h : 0 ≤ n
  · by_cases h1 : n ≤ 5
    · go_enter Try.func29, Try.ntmps29
      go_wp2
      go_ret
      exact ⟨congrArg (fun b => Ending.returned (.bool b)) (Bool.eq_iff_iff.2 (by simp; omega)), rfl⟩
    · go_enter Try.func29, Try.ntmps29
      go_wp2
      go_ret
      exact ⟨congrArg (fun b => Ending.returned (.bool b)) (Bool.eq_iff_iff.2 (by simp; omega)), rfl⟩
  · go_enter Try.func29, Try.ntmps29
    go_wp2
    go_ret
    exact ⟨congrArg (fun b => Ending.returned (.bool b)) (Bool.eq_iff_iff.2 (by simp; omega)), rfl⟩

set_option maxHeartbeats 1000000 in
theorem rising_any (w : World) (B : Nat) (ao : Option Addr) (cap : Nat) (xs : List Int) (h : IntsAt w B ao xs) : Calls Try.prog 31 #[.slice ao xs.length cap] w fun e w' => e = .returned (.bool (riseB xs)) ∧ w' = w := by
  have hlim := h.lim
  have HR : Hid _ := h.row
  rw [riseB_eq]
  clear h
  go_enter Try.func31, Try.ntmps31
  go_wp2
  go_loopw [3, 8] (fun lv iv wr => ∃ (i : Nat), i ≤ xs.length ∧ iv = .int .i64 (i : Int) ∧ lv = .int .i64 (lastF (-1) (xs.take i)) ∧ Hid (riseF (-1) (xs.take i) = true) ∧ Hid (wr = w)) (fun _ iv _ => xs.length - (intOf iv).toNat)
  case atStart => exact ⟨0, Nat.zero_le _, rfl, rfl, (rfl : riseF (-1) [] = true), (rfl : w = w)⟩
  case round =>
    obtain ⟨i, hi, rfl, rfl, HF, HWR⟩ := hrel
    obtain rfl := HWR.out
    rcases Nat.lt_or_ge i xs.length with hlt | hge
    · have hlt' : (i : Int) < (xs.length : Int) := by omega
      rcases HR.out with h0 | ⟨b, off, rfl, _, hit⟩
      · omega
      have c0 := hit i hlt
      have HS : Hid (xs.take (i + 1) = xs.take i ++ [xs[i]]) := by
        show _ = _
        rw [List.take_add_one, List.getElem?_eq_getElem hlt, Option.toList_some]
      have HD : Hid (xs = xs.take i ++ xs[i] :: xs.drop (i + 1)) := by
        show _ = _
        rw [← List.drop_eq_getElem_cons hlt, List.take_append_drop]
      have HLT : Hid (i < xs.length) := hlt
      generalize hx : xs[i] = x at *
      clear hit hlt hx
      by_cases hle : x ≤ lastF (-1) (xs.take i)
      · have HE : Hid (riseF (-1) xs = false) := by
          show riseF (-1) xs = false
          rw [HD.out]
          exact riseF_snoc _ _ _ _ (by omega)
        go_wp2
        go_ret
        exact ⟨by rw [HE.out]; rfl, rfl⟩
      · have HM : Hid (riseF (-1) (xs.take (i + 1)) = true ∧ lastF (-1) (xs.take (i + 1)) = x) := by
          show _ ∧ _
          rw [HS.out]
          exact ⟨riseF_more _ _ _ HF.out (by omega), lastF_snoc _ _ _⟩
        go_wp2
        go_roundw
        case rel => exact ⟨i + 1, HLT.out, by go_num, by rw [HM.out.2], HM.out.1, (by first | exact rfl | exact trivial)⟩
        case measure => have := HLT.out; simp [intOf]; omega
    · obtain rfl : i = xs.length := by omega
      have HT : Hid (riseF (-1) xs = true) := by have := HF.out; rwa [List.take_length] at this
      go_wp2
      go_ret
      exact ⟨by rw [HT.out]; rfl, rfl⟩

end Go.Proofs.Ytcpgpiokjghcnaa
