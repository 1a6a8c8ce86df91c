/-
  What the reference's number does: it answers as the program's.
-/
import Derived.Test.YtfbfdfenfcjolaaRText
namespace Go.Proofs.Ytfbfdfenfcjolaa
open Go.RowKit

theorem decx_end (s : ByteArray) (q k acc : Nat) (h : q = s.size) : decAt k acc ((bytesOf s).drop q) = (0, 0, 10) := by
  rw [List.drop_eq_nil_of_le (by rw [bytesOf_length]; omega)]
  rfl
theorem decx_nine (s : ByteArray) (q acc : Nat) (h : q < s.size) (h1 : 1 < s[q].toNat) : decAt 9 acc ((bytesOf s).drop q) = (0, 0, 11) := by
  rw [drop_at s q h, decAt, if_pos ⟨rfl, h1⟩]
theorem decx_zero (s : ByteArray) (q k acc : Nat) (h : q < s.size) (hk : 0 < k) (h1 : s[q].toNat = 0) : decAt k acc ((bytesOf s).drop q) = (0, 0, 11) := by
  rw [drop_at s q h, decAt, if_neg (by omega), if_pos (by omega), if_pos ⟨hk, h1⟩]
theorem decx_low (s : ByteArray) (q k acc : Nat) (h : q < s.size) (h9 : k = 9 → s[q].toNat ≤ 1) (hlow : s[q].toNat < 128) (h1 : 0 < k → s[q].toNat ≠ 0) :
    decAt k acc ((bytesOf s).drop q) = (acc + s[q].toNat * 128 ^ k, k + 1, 0) := by
  rw [drop_at s q h, decAt, if_neg (fun c => by have := h9 c.1; omega), if_pos hlow, if_neg (fun c => h1 c.1 c.2)]
theorem decx_more (s : ByteArray) (q k acc : Nat) (h : q < s.size) (h9 : k ≠ 9) (hlow : ¬ s[q].toNat < 128) :
    decAt k acc ((bytesOf s).drop q) = decAt (k + 1) (acc + (s[q].toNat - 128) * 128 ^ k) ((bytesOf s).drop (q + 1)) := by
  rw [drop_at s q h, decAt, if_neg (fun c => h9 c.1), if_neg hlow]

/-- One group more, as the reference reckons. -/
theorem xnum_step (acc k x : Nat) (hk : k ≤ 9) (hx : x < 256) (hacc : acc < 128 ^ k) (h9 : k = 9 → x ≤ 1) :
    IntKind.u64.wrap ((acc : Int) + IntKind.u64.wrap ((x : Int) % 128 * 128 ^ k)) = ((acc + (x % 128) * 128 ^ k : Nat) : Int) := by
  have hm : acc + x % 128 * 128 ^ k < 18446744073709551616 := by
    by_cases h : k = 9
    · have := h9 h
      subst h
      have h1 : x % 128 ≤ 1 := by omega
      have h2 : x % 128 * 128 ^ 9 ≤ 1 * 128 ^ 9 := Nat.mul_le_mul_right _ h1
      exact Nat.lt_of_lt_of_le (Nat.add_lt_add_of_lt_of_le hacc h2) (by decide : (128 ^ 9 + 1 * 128 ^ 9 : Nat) ≤ 18446744073709551616)
    · have h2 := acc_step acc k x hacc
      exact Nat.lt_of_lt_of_le h2 (Nat.le_trans (Nat.pow_le_pow_right (by decide) (by omega : k + 1 ≤ 9)) (by decide))
  have e3 : (x : Int) % 128 * 128 ^ k = ((x % 128 * 128 ^ k : Nat) : Int) := by rw [Int.natCast_mul, Int.natCast_pow]; rfl
  have e4 : IntKind.u64.wrap ((x % 128 * 128 ^ k : Nat) : Int) = ((x % 128 * 128 ^ k : Nat) : Int) := by rw [IntKind.wrap_u64]; omega
  rw [e3, e4, IntKind.wrap_u64, ← Int.natCast_add]
  omega

theorem xfac_step (k : Nat) (hk : k ≤ 8) : IntKind.u64.wrap (128 ^ k * 128) = ((128 ^ (k + 1) : Nat) : Int) := by
  have hm : (128 : Nat) ^ (k + 1) < 18446744073709551616 := Nat.lt_of_le_of_lt (Nat.pow_le_pow_right (by decide) (by omega : k + 1 ≤ 9)) (by decide)
  have e : (128 : Int) ^ k * 128 = ((128 ^ (k + 1) : Nat) : Int) := by rw [Nat.pow_succ, Int.natCast_mul, Int.natCast_pow]; rfl
  rw [e]
  generalize 128 ^ (k + 1) = z at *
  rw [IntKind.wrap_u64]
  omega

set_option maxHeartbeats 4000000 in
theorem xnumber_any (w : World) {rb p : Nat} {s : ByteArray} (h : RdIs 42 w rb s p) (hs : s.size ≤ 140737488355328) :
    Calls Try.prog 41 #[.pointer (some ⟨rb, 0, none⟩)] w fun e w' => e = .returned (.tuple #[.int .u64 ((numAt s p).1 : Int), .int .i64 ((numAt s p).2.1 : Int), .int .i64 (numAt s p).2.2]) ∧ ∃ j, w' = w.drewN j := by
  have c0 := cell_blk h.blk 0
  have c1 := cell_blk h.blk 1
  simp at c0 c1
  have hle := h.le
  clear h
  go_enter Try.func41, Try.ntmps41
  go_wp2
  go_loopw [5, 6, 7] (fun nv fv kv wr => ∃ (k acc j : Nat), k ≤ 9 ∧ p + k ≤ s.size ∧ acc < 128 ^ k ∧ nv = .int .u64 (acc : Int) ∧ fv = .int .u64 ((128 ^ k : Nat) : Int) ∧ kv = .int .i64 (k : Int) ∧ Hid (numAt s p = decAt k acc ((bytesOf s).drop (p + k))) ∧ wr = w.drewN j)
    (fun _ _ kv _ => 10 - (intOf kv).toNat)
  case atStart => exact ⟨0, 0, 0, by omega, by omega, by decide, rfl, rfl, rfl, rfl, rfl⟩
  case round =>
    obtain ⟨k, acc, j, hk9, hks, hacc, rfl, rfl, rfl, HD, rfl⟩ := hrel
    have hk10 : (k : Int) < 10 := by omega
    have hwr : IntKind.i64.wrap ((p : Int) + (k : Int)) = (p : Int) + (k : Int) := by rw [IntKind.wrap_i64]; omega
    have hp0 : (0 : Int) ≤ (p : Int) + (k : Int) := by omega
    have htn : ((p : Int) + (k : Int)).toNat = p + k := by omega
    have HA : Hid (acc < 128 ^ k) := hacc
    clear hacc
    by_cases hend : p + k = s.size
    · have hq : ((p : Int) + (k : Int) == (s.size : Int)) = true := by simp; omega
      have HR : Hid (numAt s p = (0, 0, 10)) := HD.out.trans (decx_end s (p + k) k acc hend)
      clear hend HD
      go_wp2
      go_quiet (fail)
      go_wp2
      go_ret3
      exact ⟨by rw [HR.out]; rfl, _, World.drewN_drewN _ _ _⟩
    · have hlt : p + k < s.size := by omega
      have hlt' : (p : Int) + (k : Int) < (s.size : Int) := by omega
      have hq : ((p : Int) + (k : Int) == (s.size : Int)) = false := by simp; omega
      have hx := s[p + k].toNat_lt
      by_cases hA : k = 9 ∧ 1 < s[p + k].toNat
      · have HR : Hid (numAt s p = (0, 0, 11)) := by
          obtain ⟨rfl, h1⟩ := hA
          exact HD.out.trans (decx_nine s (p + 9) acc hlt h1)
        have h9' : ((k : Int) == 9) = true := by simp; omega
        have HX : Hid (1 < s[p + k].toNat) := hA.2
        clear hA hx HD
        go_wp2
        go_quiet (fail)
        go_wp2
        go_quiet (fail)
        go_upto_region 9 with fail
        have hb : decide ((1 : Int) < ((s[p + k].toNat : Nat) : Int)) = true := by simp; have := HX.out; omega
        go_wp2
        go_ret3
        exact ⟨by rw [HR.out]; rfl, _, rfl⟩
      · have HN : Hid (k = 9 → s[p + k].toNat ≤ 1) := fun e => by omega
        have HS : Hid _ := xnum_step acc k s[p + k].toNat hk9 hx HA.out HN.out
        by_cases hlow : s[p + k].toNat < 128
        · have HB : Hid (s[p + k].toNat < 128) := hlow
          by_cases hz : 0 < k ∧ s[p + k].toNat = 0
          · have HR : Hid (numAt s p = (0, 0, 11)) := HD.out.trans (decx_zero s (p + k) k acc hlt hz.1 hz.2)
            have hk0 : (0 : Int) < (k : Int) := by omega
            have HZ : Hid (s[p + k].toNat = 0) := hz.2
            clear hlow hx hA hz HD
            by_cases h9 : k = 9
            all_goals
              first
                | have h9' : ((k : Int) == 9) = true := by (simp; omega)
                | have h9' : ((k : Int) == 9) = false := by (simp; omega)
              clear h9
              go_wp2
              go_quiet (fail)
              go_wp2
              go_quiet (fail)
              go_upto_region 9 with fail
              have hb : decide ((1 : Int) < ((s[p + k].toNat : Nat) : Int)) = false := by simp; have := HZ.out; omega
              go_upto_region 11 with fail
              clear hb
              go_upto_region 13 with fail
              have hb : decide (((s[p + k].toNat : Nat) : Int) < 128) = true := by simp; have := HB.out; omega
              go_upto_region 14 with fail
              clear hb
              have hb : (((s[p + k].toNat : Nat) : Int) == 0) = true := by simp; have := HZ.out; omega
              go_wp2
              go_ret3
              exact ⟨by rw [HR.out]; rfl, _, rfl⟩
          · have HR : Hid (numAt s p = (acc + s[p + k].toNat * 128 ^ k, k + 1, 0)) := HD.out.trans (decx_low s (p + k) k acc hlt HN.out hlow (fun h => by omega))
            have HZ : Hid (¬ (0 < k ∧ s[p + k].toNat = 0)) := hz
            clear hlow hx hA hz HD
            rcases (show k = 0 ∨ (0 < k ∧ k ≠ 9) ∨ k = 9 by omega) with hk | hk | hk
            · have h9' : ((k : Int) == 9) = false := by simp; omega
              have hkz : (k : Int) < 1 := by omega
              clear hk
              go_wp2
              go_quiet (fail)
              go_wp2
              go_quiet (fail)
              go_upto_region 13 with fail
              have hb : decide (((s[p + k].toNat : Nat) : Int) < 128) = true := by simp; have := HB.out; omega
              go_upto_region 14 with fail
              clear hb
              obtain ⟨bz, hbz⟩ : ∃ b : Bool, (((s[p + k].toNat : Nat) : Int) == 0) = b := ⟨_, rfl⟩
              cases bz
              all_goals
                go_wp2
                go_ret3
                refine ⟨?_, _, rfl⟩
                rw [HR.out]
                refine ret_num (HS.out.trans ?_) (show (k : Int) + 1 = ((k + 1 : Nat) : Int) by omega) rfl
                rw [Nat.mod_eq_of_lt HB.out]
            · have h9' : ((k : Int) == 9) = false := by simp; omega
              have HZ0 : Hid ((((s[p + k].toNat : Nat) : Int) == 0) = false) := by show _ = _; have := HZ.out; simp; omega
              clear hk
              go_wp2
              go_quiet (fail)
              go_wp2
              go_quiet (fail)
              go_upto_region 13 with fail
              have hb : decide (((s[p + k].toNat : Nat) : Int) < 128) = true := by simp; have := HB.out; omega
              go_upto_region 14 with fail
              clear hb
              have hb := HZ0.out
              go_wp2
              go_ret3
              refine ⟨?_, _, rfl⟩
              rw [HR.out]
              refine ret_num (HS.out.trans ?_) (show (k : Int) + 1 = ((k + 1 : Nat) : Int) by omega) rfl
              rw [Nat.mod_eq_of_lt HB.out]
            · have h9' : ((k : Int) == 9) = true := by simp; omega
              have HZ0 : Hid ((((s[p + k].toNat : Nat) : Int) == 0) = false) := by show _ = _; have := HZ.out; simp; omega
              have H1 : Hid (s[p + k].toNat ≤ 1) := HN.out hk
              clear hk
              go_wp2
              go_quiet (fail)
              go_wp2
              go_quiet (fail)
              go_upto_region 9 with fail
              have hb : decide ((1 : Int) < ((s[p + k].toNat : Nat) : Int)) = false := by simp; have := H1.out; omega
              go_upto_region 11 with fail
              clear hb
              go_upto_region 13 with fail
              have hb : decide (((s[p + k].toNat : Nat) : Int) < 128) = true := by simp; have := HB.out; omega
              go_upto_region 14 with fail
              clear hb
              have hb := HZ0.out
              go_wp2
              go_ret3
              refine ⟨?_, _, rfl⟩
              rw [HR.out]
              refine ret_num (HS.out.trans ?_) (show (k : Int) + 1 = ((k + 1 : Nat) : Int) by omega) rfl
              rw [Nat.mod_eq_of_lt HB.out]
        · have hk8 : k ≤ 8 := by omega
          have h9' : ((k : Int) == 9) = false := by simp; omega
          have HF : Hid _ := xfac_step k hk8
          have HB : Hid (¬ s[p + k].toNat < 128) := hlow
          have HR : Hid (numAt s p = decAt (k + 1) (acc + (s[p + k].toNat % 128) * 128 ^ k) ((bytesOf s).drop (p + (k + 1)))) := by
            have e : s[p + k].toNat % 128 = s[p + k].toNat - 128 := by omega
            show _ = _
            rw [e, ← Nat.add_assoc]
            exact HD.out.trans (decx_more s (p + k) k acc hlt (by omega) hlow)
          clear hlow hx hA HD
          go_wp2
          go_quiet (fail)
          go_wp2
          go_quiet (fail)
          go_upto_region 13 with fail
          have hb : decide (((s[p + k].toNat : Nat) : Int) < 128) = false := by simp; have := HB.out; omega
          go_wp2
          go_roundw
          case rel => exact ⟨k + 1, _, _, by omega, by omega, acc_step acc k s[p + k].toNat HA.out, congrArg (Value.int .u64) HS.out, congrArg (Value.int .u64) HF.out, by go_num, HR, rfl⟩
          case measure => simp [intOf]; omega

end Go.Proofs.Ytfbfdfenfcjolaa
