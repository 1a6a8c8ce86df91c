/-
  Number.
-/
import Derived.Deep.Cut
import Derived.Deep.LoopGhost
import Derived.Test.YtcpgpiokjghcnaaM11
import Derived.Test.YtcpgpiokjghcnaaM5
/-
  What number does: the number that bytes begin with.
-/
namespace Go.Proofs.Ytcpgpiokjghcnaa
open Go.RowKit

theorem ret_num {a a' b b' c c' : Int} (ha : a = a') (hb : b = b') (hc : c = c') :
    Ending.returned (.tuple #[.int .u64 a, .int .i64 b, .int .i64 c]) = .returned (.tuple #[.int .u64 a', .int .i64 b', .int .i64 c']) := by rw [ha, hb, hc]

set_option maxHeartbeats 400000 in
theorem number_any (s : ByteArray) (w : World) (hs : s.size ≤ 140737488355328) :
    Calls Try.prog 35 #[.string s] w fun e w' => e = .returned (.tuple #[.int .u64 ((decU (bytesOf s)).1 : Int), .int .i64 ((decU (bytesOf s)).2.1 : Int), .int .i64 (decU (bytesOf s)).2.2]) ∧ w' = w := by
  go_enter Try.func35, Try.ntmps35
  go_wp2
  go_step3
  go_wp2
  go_step3
  go_wp2
  go_loop [5, 6, 7, 8] (fun nv sv _ cv => ∃ (k acc : Nat), k ≤ 9 ∧ k ≤ s.size ∧ acc < 128 ^ k ∧ nv = .int .u64 (acc : Int) ∧ sv = .int .i64 (k : Int) ∧ cv = .int .i64 (k : Int) ∧ Hid (decU (bytesOf s) = decAt k acc ((bytesOf s).drop k)))
    (fun _ _ _ cv => 10 - (intOf cv).toNat)
  case atStart => exact ⟨0, 0, by omega, by omega, by decide, rfl, rfl, rfl, rfl⟩
  case round =>
    obtain ⟨k, acc, hk9, hks, hacc, rfl, rfl, rfl, HD⟩ := hrel
    have hk10 : (k : Int) < 10 := by omega
    by_cases hend : k = s.size
    · have hq : ((k : Int) == (s.size : Int)) = true := by simp [hend]
      have HR : Hid (decU (bytesOf s) = (0, 0, 10)) := HD.out.trans (dec_end s k acc hend)
      clear hend
      go_wp2
      go_ret3
      exact ⟨by rw [HR.out]; rfl, rfl⟩
    · have hlt : k < s.size := by omega
      have hq : ((k : Int) == (s.size : Int)) = false := by simp; omega
      have HA : Hid (acc < 128 ^ k) := hacc
      clear hacc
      have hx := s[k].toNat_lt
      by_cases h9 : k = 9
      · subst h9
        by_cases h1 : 1 < s[9].toNat
        · have HR : Hid (decU (bytesOf s) = (0, 0, 11)) := HD.out.trans (dec_nine s acc hlt h1)
          have HX : Hid (1 < s[9].toNat) := h1
          clear h1 hx
          go_upto_region 10 with fail
          have hb : decide ((1 : Int) < ((s[9].toNat : Nat) : Int)) = true := by simp; have := HX.out; omega
          go_wp2
          rw [Exit.noGoto_ret]
          go_ret3
          exact ⟨by rw [HR.out]; rfl, rfl⟩
        · have HX : Hid (¬ 1 < s[9].toNat) := h1
          have HS : Hid _ := num_step9 acc s[9].toNat (by omega) HA.out
          have HR0 : Hid (s[9].toNat = 0 → decU (bytesOf s) = (0, 0, 11)) := fun hz => HD.out.trans (dec_zero s 9 acc hlt (by omega) hz)
          have HR1 : Hid (s[9].toNat ≠ 0 → decU (bytesOf s) = (acc + s[9].toNat * 128 ^ 9, 9 + 1, 0)) := fun hz => HD.out.trans (dec_low s 9 acc hlt (fun _ => by omega) (by omega) (fun _ => hz))
          clear h1 hx
          go_upto_region 10 with fail
          have hb : decide ((1 : Int) < ((s[9].toNat : Nat) : Int)) = false := by simp; have := HX.out; omega
          go_upto_region 12 with fail
          clear hb
          have hb : decide (((s[9].toNat : Nat) : Int) < 128) = true := by simp; have := HX.out; omega
          go_upto_region 14 with fail
          clear hb
          go_wp2
          · have hz : (((s[9].toNat : Nat) : Int) == 0) = true := by assumption
            have hz' : s[9].toNat = 0 := by have := beq_iff_eq.1 hz; omega
            rw [Exit.noGoto_ret]
            go_ret3
            exact ⟨by rw [HR0.out hz']; rfl, rfl⟩
          · have hz : (((s[9].toNat : Nat) : Int) == 0) = false := by assumption
            have hz' : s[9].toNat ≠ 0 := by have := beq_eq_false_iff_ne.1 hz; omega
            rw [Exit.noGoto_ret]
            go_ret3
            refine ⟨?_, rfl⟩
            rw [HR1.out hz']
            exact ret_num HS.out rfl rfl
      · have h9' : ((k : Int) + 1 == 10) = false := by simp; omega
        by_cases hlow : s[k].toNat < 128
        · have HB : Hid (s[k].toNat < 128) := hlow
          clear hlow hx
          by_cases h0 : k = 0
          · subst h0
            have HR : Hid (decU (bytesOf s) = (acc + s[0].toNat * 128 ^ 0, 1, 0)) := HD.out.trans (dec_low s 0 acc hlt (by omega) HB.out (by omega))
            have HS : Hid _ := num_step0 acc s[0].toNat (by have := HB.out; omega) HA.out
            go_upto_region 12 with fail
            have hb : decide (((s[0].toNat : Nat) : Int) < 128) = true := by simp; have := HB.out; omega
            go_wp2
            go_ret3
            refine ⟨?_, rfl⟩
            rw [HR.out]
            refine ret_num (HS.out.trans ?_) rfl rfl
            rw [Nat.mod_eq_of_lt HB.out]
          · have h0' : (1 : Int) < (k : Int) + 1 := by omega
            have HS : Hid _ := num_step acc k s[k].toNat hk9 (by have := HB.out; omega) HA.out (by omega)
            have HR0 : Hid (s[k].toNat = 0 → decU (bytesOf s) = (0, 0, 11)) := fun hz => HD.out.trans (dec_zero s k acc hlt (by omega) hz)
            have HR1 : Hid (s[k].toNat ≠ 0 → decU (bytesOf s) = (acc + s[k].toNat * 128 ^ k, k + 1, 0)) := fun hz => HD.out.trans (dec_low s k acc hlt (by omega) HB.out (fun _ => hz))
            go_upto_region 12 with fail
            have hb : decide (((s[k].toNat : Nat) : Int) < 128) = true := by simp; have := HB.out; omega
            go_upto_region 14 with fail
            clear hb
            go_wp2
            · have hz : (((s[k].toNat : Nat) : Int) == 0) = true := by assumption
              have hz' : s[k].toNat = 0 := by have := beq_iff_eq.1 hz; omega
              go_ret3
              exact ⟨by rw [HR0.out hz']; rfl, rfl⟩
            · have hz : (((s[k].toNat : Nat) : Int) == 0) = false := by assumption
              have hz' : s[k].toNat ≠ 0 := by have := beq_eq_false_iff_ne.1 hz; omega
              go_ret3
              refine ⟨?_, rfl⟩
              rw [HR1.out hz']
              refine ret_num (HS.out.trans ?_) (show (k : Int) + 1 = ((k + 1 : Nat) : Int) by omega) rfl
              rw [Nat.mod_eq_of_lt HB.out]
        · have hb : decide (((s[k].toNat : Nat) : Int) < 128) = false := by simp; omega
          have HB : Hid (¬ s[k].toNat < 128) := hlow
          have HS : Hid _ := num_step acc k s[k].toNat hk9 (by omega) HA.out (by omega)
          have HR : Hid (decU (bytesOf s) = decAt (k + 1) (acc + (s[k].toNat % 128) * 128 ^ k) ((bytesOf s).drop (k + 1))) := by
            have e : s[k].toNat % 128 = s[k].toNat - 128 := by omega
            show _ = _
            rw [e]
            exact HD.out.trans (dec_more s k acc hlt h9 hlow)
          clear hlow hx
          go_wp2
          go_round
          case rel => exact ⟨k + 1, _, by omega, by omega, acc_step acc k s[k].toNat HA.out, congrArg (Value.int .u64) HS.out, by go_num, by go_num, HR⟩
          case measure => simp [intOf]; omega

end Go.Proofs.Ytcpgpiokjghcnaa
