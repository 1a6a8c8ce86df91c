/-
  The number that bytes begin with: a plain function, and its laws; nothing of the program.
-/
import Derived.Test.YtlgljpbbooeanaaAppend
namespace Go.Proofs.Ytlgljpbbooeanaa

/-- The number that l begins with, i groups that make acc having been read: the number, how many bytes it has, the error. -/
def decAt (i acc : Nat) : List UInt8 → Nat × Nat × Int
  | [] => (0, 0, 10)
  | b :: r =>
    if i = 9 ∧ 1 < b.toNat then (0, 0, 11)
    else if b.toNat < 128 then (if 0 < i ∧ b.toNat = 0 then (0, 0, 11) else (acc + b.toNat * 128 ^ i, i + 1, 0))
    else decAt (i + 1) (acc + (b.toNat - 128) * 128 ^ i) r

def decU (l : List UInt8) : Nat × Nat × Int := decAt 0 0 l

theorem drop_at (s : ByteArray) (k : Nat) (h : k < s.size) : (bytesOf s).drop k = s[k] :: (bytesOf s).drop (k + 1) := by
  have hl : k < (bytesOf s).length := by rw [bytesOf_length]; exact h
  rw [List.drop_eq_getElem_cons hl]
  rfl

theorem dec_end (s : ByteArray) (k acc : Nat) (h : k = s.size) : decAt k acc ((bytesOf s).drop k) = (0, 0, 10) := by
  rw [List.drop_eq_nil_of_le (by rw [bytesOf_length]; omega)]
  rfl

theorem dec_nine (s : ByteArray) (acc : Nat) (h : 9 < s.size) (h1 : 1 < s[9].toNat) : decAt 9 acc ((bytesOf s).drop 9) = (0, 0, 11) := by
  rw [drop_at s 9 h, decAt, if_pos ⟨rfl, h1⟩]

theorem dec_zero (s : ByteArray) (k acc : Nat) (h : k < s.size) (hk : 0 < k) (h1 : s[k].toNat = 0) : decAt k acc ((bytesOf s).drop k) = (0, 0, 11) := by
  rw [drop_at s k h, decAt, if_neg (by omega), if_pos (by omega), if_pos ⟨hk, h1⟩]

theorem dec_low (s : ByteArray) (k acc : Nat) (h : k < s.size) (h9 : k = 9 → s[k].toNat ≤ 1) (hlow : s[k].toNat < 128) (h1 : 0 < k → s[k].toNat ≠ 0) :
    decAt k acc ((bytesOf s).drop k) = (acc + s[k].toNat * 128 ^ k, k + 1, 0) := by
  rw [drop_at s k h, decAt, if_neg (fun c => by have := h9 c.1; omega), if_pos hlow, if_neg (fun c => h1 c.1 c.2)]

theorem dec_more (s : ByteArray) (k acc : Nat) (h : k < s.size) (h9 : k ≠ 9) (hlow : ¬ s[k].toNat < 128) :
    decAt k acc ((bytesOf s).drop k) = decAt (k + 1) (acc + (s[k].toNat - 128) * 128 ^ k) ((bytesOf s).drop (k + 1)) := by
  rw [drop_at s k h, decAt, if_neg (fun c => h9 c.1), if_neg hlow]

theorem pow128 (k : Nat) : 128 ^ k = 2 ^ (7 * k) := by rw [Nat.pow_mul]

/-- One group more. -/
theorem num_step (acc k x : Nat) (hk : k ≤ 9) (hx : x < 256) (hacc : acc < 128 ^ k) (h9 : k = 9 → x ≤ 1) :
    bits .or .u64 (acc : Int) (IntKind.u64.wrap (IntKind.u64.wrap (bits .andNot .u8 (x : Int) 128) * 2 ^ (7 * k))) = ((acc + (x % 128) * 128 ^ k : Nat) : Int) := by
  have e1 : bits .andNot .u8 (x : Int) 128 = ((x % 128 : Nat) : Int) := by
    have h := u8_andNot_nat x 128 hx (by decide)
    rw [show (255 - 128 : Nat) = 127 from rfl, nat_mask7] at h
    exact h
  have hm : x % 128 * 2 ^ (7 * k) < 18446744073709551616 := by
    by_cases h : k = 9
    · have := h9 h
      subst h
      have : x % 128 ≤ 1 := by omega
      exact Nat.lt_of_le_of_lt (Nat.mul_le_mul_right _ this) (by decide : (1 * 2 ^ (7 * 9) : Nat) < 18446744073709551616)
    · exact Nat.lt_of_le_of_lt (Nat.mul_le_mul (by omega : x % 128 ≤ 128) (Nat.pow_le_pow_right (by decide) (by omega : 7 * k ≤ 7 * 8))) (by decide : (128 * 2 ^ (7 * 8) : Nat) < 18446744073709551616)
  have e2 : IntKind.u64.wrap ((x % 128 : Nat) : Int) = ((x % 128 : Nat) : Int) := by rw [IntKind.wrap_u64]; omega
  have e3 : ((x % 128 : Nat) : Int) * 2 ^ (7 * k) = ((x % 128 * 2 ^ (7 * k) : Nat) : Int) := by rw [Int.natCast_mul, Int.natCast_pow]; rfl
  have hacc' : acc < 2 ^ (7 * k) := by rw [← pow128]; exact hacc
  have hacc2 : acc < 18446744073709551616 := Nat.lt_of_lt_of_le hacc' (Nat.le_trans (Nat.pow_le_pow_right (by decide) (by omega : 7 * k ≤ 64)) (by decide))
  rw [e1, e2, e3]
  have e4 : IntKind.u64.wrap ((x % 128 * 2 ^ (7 * k) : Nat) : Int) = ((x % 128 * 2 ^ (7 * k) : Nat) : Int) := by rw [IntKind.wrap_u64]; omega
  rw [e4, u64_or_nat acc _ hacc2 hm, Nat.or_comm, nat_join (7 * k) _ acc (Nat.mul_mod_left _ _) hacc', pow128, Nat.add_comm]

theorem num_step0 (acc x : Nat) (hx : x < 256) (hacc : acc < 128 ^ 0) :
    bits .or .u64 (acc : Int) (IntKind.u64.wrap (IntKind.u64.wrap (bits .andNot .u8 (x : Int) 128))) = ((acc + (x % 128) * 128 ^ 0 : Nat) : Int) := by
  have h := num_step acc 0 x (by omega) hx hacc (by omega)
  rw [show (2 : Int) ^ (7 * 0) = 1 from rfl, Int.mul_one] at h
  exact h

theorem num_step9 (acc x : Nat) (hx : x ≤ 1) (hacc : acc < 128 ^ 9) :
    bits .or .u64 (acc : Int) (IntKind.u64.wrap (IntKind.u64.wrap (bits .andNot .u8 (x : Int) 128) * 9223372036854775808)) = ((acc + x * 128 ^ 9 : Nat) : Int) := by
  have h := num_step acc 9 x (by omega) (by omega) hacc (fun _ => hx)
  rw [show (2 : Int) ^ (7 * 9) = 9223372036854775808 from rfl, Nat.mod_eq_of_lt (by omega : x < 128)] at h
  exact h

theorem acc_step (acc k x : Nat) (hacc : acc < 128 ^ k) : acc + (x % 128) * 128 ^ k < 128 ^ (k + 1) := by
  have h1 : x % 128 * 128 ^ k ≤ 127 * 128 ^ k := Nat.mul_le_mul_right _ (by omega)
  rw [Nat.pow_succ]
  omega

end Go.Proofs.Ytlgljpbbooeanaa
