/-
  What the reference's bytes of a fixed number are.
-/
import Derived.Test.YtfbfdfenfcjolaaXPuts
namespace Go.Proofs.Ytfbfdfenfcjolaa
open Go.RowKit

set_option maxHeartbeats 400000 in
theorem fixedRef_arg (n size : Int) (w : World) (hs : isSizeB size = false) :
    Calls Try.prog 38 #[.int .u64 n, .int .i64 size] w fun e w' => e = .returned (.tuple #[.string ByteArray.empty, .bool false]) ∧ w' = w := by
  go_enter Try.func38, Try.ntmps38
  go_wp2_with (go_at_call 44; refine (May_any size _).mono ?_; rw [hs]; rintro e w1 ⟨rfl, rfl⟩)
  go_ret2
  exact ⟨rfl, rfl⟩

theorem shift_succ (n i : Nat) : n / 2 ^ (8 * i) / 256 = n / 2 ^ (8 * (i + 1)) := by
  rw [Nat.div_div_eq_div_mul, Nat.mul_add, Nat.pow_add]

set_option maxHeartbeats 800000 in
theorem fixedRef_any (n k : Nat) (w : World) (hn : (n : Int) < 18446744073709551616) (hs : isSizeB (k : Int) = true) (hk8 : (k : Int) ≤ 8) (hk0 : 0 < k) :
    Calls Try.prog 38 #[.int .u64 (n : Int), .int .i64 (k : Int)] w fun e w' => e = .returned (.tuple #[.string (strOf (fixedN k n)), .bool (((n / 2 ^ (8 * k) : Nat) : Int) == 0)]) ∧ Kept [] w w' := by
  obtain ⟨i0, hi, hz0, hz1, hz2⟩ := info_parts Try.infoU8
  have Hn : Hid ((n : Int) < 18446744073709551616) := hn
  clear hn
  go_enter Try.func38, Try.ntmps38
  go_wp2_with (go_at_call 44; refine (May_any _ _).mono ?_; rw [hs]; rintro e w1 ⟨rfl, hw⟩; replace hw := hw.symm; subst hw)
  go_loopw [0, 7, 8] (fun nv dv cv wr => ∃ (i m : Nat) (ao : Option Addr) (cap : Nat), i ≤ k ∧ cv = .int .i64 (i : Int) ∧ Hid (m = n / 2 ^ (8 * i)) ∧ nv = .int .u64 (m : Int) ∧ dv = .slice ao (fixedN i n).length cap ∧
      wr.ownsRow w.heap.size 5 1 (.slice ao (fixedN i n).length cap) (fixedN i n).length (cellsOf (fixedN i n)) ∧ Kept [] w wr)
    (fun _ _ cv _ => k - (intOf cv).toNat)
  case atStart => exact ⟨0, n, none, 0, Nat.zero_le _, rfl, by show n = _; simp, rfl, rfl, World.ownsRow_nil _ _ _ _, Kept.refl _ _⟩
  case round =>
    obtain ⟨i, m, ao, cap, hik, rfl, HM, rfl, rfl, hown, hkk⟩ := hrel
    by_cases hlt : i < k
    · have hlt' : (i : Int) < (k : Int) := by omega
      have HF : Hid ((fixedN i n).length = i) := fixedN_length i n
      have HW : Hid (IntKind.u64.wrap ((m : Int) / 256) = ((m / 256 : Nat) : Int)) := by
        show _ = _
        have h1 := Hn.out
        have h2 : m ≤ n := by rw [HM.out]; exact Nat.div_le_self _ _
        rw [IntKind.wrap_u64]; omega
      go_wp2_with (first | (at_builtin; refine wpList_append_own _ rfl _ _ 68 rfl w.heap.size 5 i0 (.int .u8 0) 1 1 Try.underlying68 hi hz0 hz1 hz2 rfl (by decide) _ _ _ rfl (hown.alloc _) ⟨wr.heap.size, 0, none⟩ 1 1 [.int .u8 ((m : Int) % 256)] rfl rfl (cell_one_new _ _ _) ?d2 ?d3 ?d4 ?d5 ?_) | fail)
      case d2 => intro u hu; simp at hu; subst hu; rfl
      case d3 => have := HF.out; unfold maxLen; omega
      case d4 => have := HF.out; omega
      case d5 => have := hkk.size; simp; omega
      intro v' w2 hown2 hg2 _
      obtain ⟨ao', cap', rfl, hown3, hk3⟩ := grown_one (byte_low m) hown hkk hown2 hg2
      rw [HM.out, ← fixedN_succ] at hown3
      rw [show (fixedN i n ++ [UInt8.ofNat m]) = fixedN (i + 1) n by rw [fixedN_succ, HM.out]]
      clear hown2 hg2 hown hkk
      go_wp2
      go_roundw
      case rel => exact ⟨i + 1, m / 256, ao', cap', by omega, by go_num, by show _ = _; rw [HM.out, shift_succ], congrArg (Value.int .u64) HW.out, rfl, hown3, hk3⟩
      case measure => simp [intOf]; omega
    · obtain rfl : i = k := by omega
      have hcv := run_string_of_row (P := Try.prog) wr 68 9 5 Try.underlying68 Try.underlying5 Try.underlying9 hown
      go_wp2
      go_ret2
      refine ⟨?_, hkk⟩
      rw [← HM.out]
      rfl

end Go.Proofs.Ytfbfdfenfcjolaa
