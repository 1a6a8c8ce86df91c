/-
  Numbers as bytes and back: what is put is read, what is read is put so; no number's bytes are the beginning of another one's. Plain; nothing of the program.
-/
import Derived.Test.YtlgljpbbooeanaaDec
namespace Go.Proofs.Ytlgljpbbooeanaa

/-- What is put is read, whatever stands behind it. -/
theorem dec_enc (t : List UInt8) : ∀ (x i acc : Nat), i ≤ 9 → x * 128 ^ i < 18446744073709551616 → (0 < i → 0 < x) →
    decAt i acc (encU x ++ t) = (acc + x * 128 ^ i, i + (encU x).length, 0) := by
  intro x
  induction x using Nat.strongRecOn with
  | _ x ih =>
    intro i acc hi hlt h0
    have h9 : i = 9 → x ≤ 1 := fun e => by
      subst e
      have h2 : ¬ 2 ≤ x := fun h => by
        have h3 : 2 * 128 ^ 9 ≤ x * 128 ^ 9 := Nat.mul_le_mul_right _ h
        have h4 : (2 * 128 ^ 9 : Nat) = 18446744073709551616 := by decide
        rw [h4] at h3
        exact absurd hlt (Nat.not_lt.2 h3)
      omega
    by_cases h : x < 128
    · have hb : (UInt8.ofNat x).toNat = x := by rw [UInt8.toNat_ofNat']; omega
      rw [encU_small h, List.singleton_append, decAt, hb, if_neg (fun c => by have := h9 c.1; omega), if_pos h, if_neg (fun c => by have := h0 c.1; omega)]
      rfl
    · have hb : (UInt8.ofNat (x % 128 + 128)).toNat = x % 128 + 128 := by rw [UInt8.toNat_ofNat']; omega
      have hi9 : i ≠ 9 := fun c => by have := h9 c; omega
      have e1 : x % 128 * 128 ^ i + x / 128 * 128 ^ (i + 1) = x * 128 ^ i := by
        rw [Nat.pow_succ, Nat.mul_comm (128 ^ i) 128, ← Nat.mul_assoc, ← Nat.add_mul]
        congr 1
        omega
      rw [encU_big h, List.cons_append, decAt, hb, if_neg (fun c => hi9 c.1), if_neg (by omega), show x % 128 + 128 - 128 = x % 128 by omega,
        ih (x / 128) (by omega) (i + 1) _ (by omega) (by omega) (fun _ => by omega), List.length_cons]
      rw [← e1]
      simp only [Prod.mk.injEq, and_true]
      omega

theorem decU_enc (n : Nat) (h : n < 18446744073709551616) (t : List UInt8) : decU (encU n ++ t) = (n, (encU n).length, 0) := by
  have := dec_enc t n 0 0 (by omega) (by omega) (by omega)
  unfold decU
  rw [this]
  simp

/-- What is read is put so. -/
theorem enc_dec (l : List UInt8) : ∀ (i acc n k : Nat), decAt i acc l = (n, k, 0) → ∃ x, n = acc + x * 128 ^ i ∧ i < k ∧ encU x = l.take (k - i) ∧ (0 < i → 0 < x) := by
  induction l with
  | nil => intro i acc n k h; simp [decAt] at h
  | cons b r ih =>
    intro i acc n k h
    have hb := b.toNat_lt
    rw [decAt] at h
    split at h
    · simp at h
    · split at h
      · rename_i hlow
        split at h
        · simp at h
        · rename_i hz
          simp only [Prod.mk.injEq, and_true] at h
          obtain ⟨rfl, rfl⟩ := h
          refine ⟨b.toNat, rfl, by omega, ?_, fun hi => by omega⟩
          rw [encU_small hlow, show i + 1 - i = 1 by omega]
          simp
      · rename_i hlow
        obtain ⟨y, hn, hk, he, hy⟩ := ih _ _ _ _ h
        have hy0 : 0 < y := hy (by omega)
        refine ⟨(b.toNat - 128) + 128 * y, ?_, by omega, ?_, fun _ => by omega⟩
        · rw [hn, Nat.pow_succ, Nat.add_mul, Nat.mul_comm (128 ^ i) 128, ← Nat.mul_assoc, Nat.mul_comm y 128]
          omega
        · have e1 : ((b.toNat - 128) + 128 * y) % 128 + 128 = b.toNat := by omega
          have e2 : ((b.toNat - 128) + 128 * y) / 128 = y := by omega
          rw [encU_big (by omega), e1, e2, he, show k - i = (k - (i + 1)) + 1 by omega, List.take_succ_cons]
          simp

theorem encU_dec (l : List UInt8) (n k : Nat) (h : decU l = (n, k, 0)) : encU n = l.take k := by
  obtain ⟨x, hn, _, he, _⟩ := enc_dec l 0 0 n k h
  have : n = x := by rw [hn]; simp
  rw [this, he]
  simp

/-- No number's bytes are the beginning of another one's. -/
theorem enc_apart (n m : Nat) (hn : n < 18446744073709551616) (hm : m < 18446744073709551616) (h : (encU m).take (encU n).length = encU n) : n = m := by
  have e1 : encU m = encU n ++ (encU m).drop (encU n).length := by
    rw [← h]
    rw [List.length_take]
    have : min (encU n).length (encU m).length = (encU n).length := by
      have := congrArg List.length h; rw [List.length_take] at this; exact this
    rw [this, List.take_append_drop]
  have h1 := decU_enc n hn ((encU m).drop (encU n).length)
  have h2 := decU_enc m hm []
  rw [← e1] at h1
  rw [List.append_nil, h1] at h2
  simp only [Prod.mk.injEq] at h2
  exact h2.1

theorem fixVal_fixed (k n : Nat) : fixVal (fixedN k n) = n % 2 ^ (8 * k) := by
  induction k with
  | zero => simp [fixedN, fixVal, Nat.mod_one]
  | succ k ih =>
    have e : (2 : Nat) ^ (8 * (k + 1)) = 2 ^ (8 * k) * 256 := by rw [Nat.mul_add, Nat.pow_add]
    rw [fixedN_succ, fixVal_snoc, ih, fixedN_length, e, Nat.mod_mul, UInt8.toNat_ofNat', show (2 ^ 8 : Nat) = 256 from rfl, Nat.mul_comm (2 ^ (8 * k))]

end Go.Proofs.Ytlgljpbbooeanaa
