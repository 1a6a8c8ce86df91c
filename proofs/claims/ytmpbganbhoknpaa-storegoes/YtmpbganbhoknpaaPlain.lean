/-
  What numbers and texts are as bytes: plain functions on lists of bytes and numbers, and their laws; nothing of the program.
-/
import Derived.WalkKit
import Derived.Laws.BitsAllLaws
namespace Go.Proofs.Ytmpbganbhoknpaa

/-- A number's bytes: groups of seven binary digits, the lowest first, 128 added to each but the last. -/
def encU (n : Nat) : List UInt8 :=
  if h : n < 128 then [UInt8.ofNat n] else UInt8.ofNat (n % 128 + 128) :: encU (n / 128)
termination_by n
decreasing_by omega

theorem encU_small {n : Nat} (h : n < 128) : encU n = [UInt8.ofNat n] := by
  rw [encU, dif_pos h]

theorem encU_big {n : Nat} (h : ¬ n < 128) : encU n = UInt8.ofNat (n % 128 + 128) :: encU (n / 128) := by
  rw [encU, dif_neg h]

theorem encU_pos (n : Nat) : 1 ≤ (encU n).length := by
  by_cases h : n < 128
  · rw [encU_small h]; simp
  · rw [encU_big h]; simp

theorem encU_le (k n : Nat) (h : n < 128 ^ (k + 1)) : (encU n).length ≤ k + 1 := by
  induction k generalizing n with
  | zero => rw [encU_small (by simpa using h)]; simp
  | succ k ih =>
    by_cases hn : n < 128
    · rw [encU_small hn]; simp
    · rw [encU_big hn]
      have : n / 128 < 128 ^ (k + 1) := by rw [Nat.div_lt_iff_lt_mul (by decide)]; rw [Nat.pow_succ] at h; exact h
      have := ih _ this
      simp; omega

theorem encU_ten {n : Nat} (h : n < 18446744073709551616) : (encU n).length ≤ 10 :=
  encU_le 9 n (by have : (18446744073709551616 : Nat) ≤ 128 ^ 10 := by decide
                  omega)

/-- Bytes as cells. -/
def cellsOf (bs : List UInt8) : List Value := bs.map fun b => Value.int .u8 (b.toNat : Int)

theorem cellsOf_length (bs : List UInt8) : (cellsOf bs).length = bs.length := by simp [cellsOf]
theorem cellsOf_append (a b : List UInt8) : cellsOf (a ++ b) = cellsOf a ++ cellsOf b := by simp [cellsOf]
theorem cellsOf_nil : cellsOf [] = [] := rfl
theorem cellsOf_one (b : UInt8) : cellsOf [b] = [Value.int .u8 (b.toNat : Int)] := rfl
theorem cellsOf_oneCell (bs : List UInt8) : ∀ u ∈ cellsOf bs, u.oneCell' = true := by
  intro u hu
  obtain ⟨b, _, rfl⟩ := List.mem_map.1 hu
  rfl

set_option maxRecDepth 100000 in
theorem or128 : ∀ x : Fin 256, x.val ||| 128 = x.val % 128 + 128 := by decide +kernel

theorem byte_or128 (m : Nat) : bits .or .u8 ((m : Int) % 256) 128 = ((UInt8.ofNat (m % 128 + 128)).toNat : Int) := by
  have e : ((m : Int) % 256) = ((m % 256 : Nat) : Int) := by omega
  have h := u8_or_nat (m % 256) 128 (by omega) (by decide)
  rw [e, show ((128 : Int)) = ((128 : Nat) : Int) from rfl, h, or128 ⟨m % 256, by omega⟩]
  have : (UInt8.ofNat (m % 128 + 128)).toNat = m % 128 + 128 := by rw [UInt8.toNat_ofNat']; omega
  rw [this]
  show ((m % 256 % 128 + 128 : Nat) : Int) = _
  omega

theorem byte_low (m : Nat) : ((m : Int) % 256) = ((UInt8.ofNat m).toNat : Int) := by
  rw [UInt8.toNat_ofNat']; omega

theorem nat_not64 (x : Nat) (h : x < 18446744073709551616) : 18446744073709551615 ^^^ x = 18446744073709551615 - x := by
  have e : (18446744073709551615 : Nat) ^^^ x = (BitVec.allOnes 64 ^^^ BitVec.ofNat 64 x).toNat := by
    rw [BitVec.toNat_xor, BitVec.toNat_allOnes, BitVec.toNat_ofNat, Nat.mod_eq_of_lt h]
  rw [e, BitVec.allOnes_xor, BitVec.toNat_not, BitVec.toNat_ofNat, Nat.mod_eq_of_lt h]

theorem u64_not (x : Int) (h0 : 0 ≤ x) (h : x < 18446744073709551616) : bits .xor .u64 18446744073709551615 x = 18446744073709551615 - x := by
  obtain ⟨n, rfl⟩ := Int.eq_ofNat_of_zero_le h0
  have e := u64_xor_nat 18446744073709551615 n (by decide) (by omega)
  rw [nat_not64 n (by omega)] at e
  have e1 : ((18446744073709551615 : Nat) : Int) = 18446744073709551615 := rfl
  rw [e1] at e
  rw [e]
  omega

/-- A signed number's number without a sign. -/
def foldN (n : Int) : Nat := (if n < 0 then -2 * n - 1 else 2 * n).toNat
theorem foldN_neg {n : Int} (h : n < 0) : ((foldN n : Nat) : Int) = -2 * n - 1 := by unfold foldN; rw [if_pos h]; omega
theorem foldN_pos {n : Int} (h : 0 ≤ n) : ((foldN n : Nat) : Int) = n * 2 := by unfold foldN; rw [if_neg (by omega)]; omega
theorem foldN_lt {n : Int} (h0 : -9223372036854775808 ≤ n) (h1 : n ≤ 9223372036854775807) : ((foldN n : Nat) : Int) < 18446744073709551616 := by unfold foldN; split <;> omega

theorem fold_bits {n : Int} (h0 : -9223372036854775808 ≤ n) (h : n < 0) : bits .xor .u64 IntKind.u64.max (IntKind.u64.wrap (IntKind.u64.wrap n * 2)) = ((foldN n : Nat) : Int) := by
  have e : IntKind.u64.wrap (IntKind.u64.wrap n * 2) = 2 * n + 18446744073709551616 := by rw [IntKind.wrap_u64, IntKind.wrap_u64]; omega
  have e2 : IntKind.u64.max = 18446744073709551615 := by decide
  rw [e, e2, u64_not _ (by omega) (by omega), foldN_neg h]
  omega

/-- May a fixed number have so many bytes? -/
def isSizeB (n : Int) : Bool := n == 1 || n == 2 || n == 4 || n == 8
theorem isSizeB_le {n : Int} (h : isSizeB n = true) : n = 1 ∨ n = 2 ∨ n = 4 ∨ n = 8 := by
  simp [isSizeB] at h; omega

/-- A fixed number's bytes: its lowest k bytes, the lowest first. -/
def fixedN (k n : Nat) : List UInt8 := (List.range k).map fun i => UInt8.ofNat (n / 2 ^ (8 * i))
theorem fixedN_length (k n : Nat) : (fixedN k n).length = k := by simp [fixedN]
theorem fixedN_succ (k n : Nat) : fixedN (k + 1) n = fixedN k n ++ [UInt8.ofNat (n / 2 ^ (8 * k))] := by simp [fixedN, List.range_succ]
theorem fixed_byte (n i : Nat) : ((n : Int) / 2 ^ (8 * i)) % 256 = ((UInt8.ofNat (n / 2 ^ (8 * i))).toNat : Int) := by
  rw [← byte_low, Int.natCast_ediv, Int.natCast_pow]
  rfl

theorem bits_not (x : Int) (h0 : 0 ≤ x) (h1 : x < 9223372036854775808) : bits .xor .i64 (-1) x = -x - 1 := by
  obtain ⟨n, rfl⟩ := Int.eq_ofNat_of_zero_le h0
  have e : (BitVec.ofInt 64 (-1) ^^^ BitVec.ofInt 64 (n : Int)).toNat = 18446744073709551615 - n := by
    rw [show BitVec.ofInt 64 (-1) = BitVec.allOnes 64 from by decide, BitVec.allOnes_xor, BitVec.toNat_not, ofInt_u64 n (by omega)]
  show IntKind.i64.wrap ((BitVec.ofInt 64 (-1) ^^^ BitVec.ofInt 64 (n : Int)).toNat : Int) = _
  rw [e, IntKind.wrap_i64]
  omega

/-- The value of a fixed number's bytes. -/
def fixVal : List UInt8 → Nat
  | [] => 0
  | b :: r => b.toNat + 256 * fixVal r

theorem fixVal_snoc (l : List UInt8) (b : UInt8) : fixVal (l ++ [b]) = fixVal l + b.toNat * 2 ^ (8 * l.length) := by
  induction l with
  | nil => simp [fixVal]
  | cons c r ih =>
    have e : (2 : Nat) ^ (8 * (r.length + 1)) = 256 * 2 ^ (8 * r.length) := by rw [Nat.mul_add, Nat.pow_add, Nat.mul_comm]
    rw [List.cons_append, fixVal, fixVal, ih, List.length_cons, e, Nat.mul_add, ← Nat.mul_assoc, ← Nat.mul_assoc, Nat.mul_comm b.toNat 256]
    omega

theorem fixVal_lt (l : List UInt8) : fixVal l < 2 ^ (8 * l.length) := by
  induction l with
  | nil => simp [fixVal]
  | cons c r ih =>
    have e : (2 : Nat) ^ (8 * (r.length + 1)) = 256 * 2 ^ (8 * r.length) := by rw [Nat.mul_add, Nat.pow_add, Nat.mul_comm]
    have := c.toNat_lt
    rw [fixVal, List.length_cons, e]
    omega

/-- One byte more. -/
theorem fix_step (l : List UInt8) (b : UInt8) (h : l.length ≤ 7) :
    bits .or .u64 (fixVal l : Int) (IntKind.u64.wrap (IntKind.u64.wrap ((b.toNat : Nat) : Int) * 2 ^ (8 * l.length))) = (fixVal (l ++ [b]) : Int) := by
  have hb := b.toNat_lt
  have hl := fixVal_lt l
  have e3 : ((b.toNat : Nat) : Int) * 2 ^ (8 * l.length) = ((b.toNat * 2 ^ (8 * l.length) : Nat) : Int) := by rw [Int.natCast_mul, Int.natCast_pow]; rfl
  have hm : b.toNat * 2 ^ (8 * l.length) < 18446744073709551616 :=
    Nat.lt_of_le_of_lt (Nat.mul_le_mul (by omega : b.toNat ≤ 255) (Nat.pow_le_pow_right (by decide) (by omega : 8 * l.length ≤ 8 * 7))) (by decide : (255 * 2 ^ (8 * 7) : Nat) < 18446744073709551616)
  have h2 : fixVal l < 18446744073709551616 := Nat.lt_of_lt_of_le hl (Nat.le_trans (Nat.pow_le_pow_right (by decide) (by omega : 8 * l.length ≤ 64)) (by decide))
  have e1 : IntKind.u64.wrap ((b.toNat : Nat) : Int) = ((b.toNat : Nat) : Int) := by rw [IntKind.wrap_u64]; omega
  have e4 : IntKind.u64.wrap ((b.toNat * 2 ^ (8 * l.length) : Nat) : Int) = ((b.toNat * 2 ^ (8 * l.length) : Nat) : Int) := by rw [IntKind.wrap_u64]; omega
  rw [e1, e3, e4, u64_or_nat _ _ h2 hm, Nat.or_comm, nat_join (8 * l.length) _ _ (Nat.mul_mod_left _ _) hl, fixVal_snoc, Nat.add_comm]

/-- The signed number that foldN made n of. -/
def unfoldN (n : Nat) : Int := if n % 2 = 1 then -((n / 2 : Nat) : Int) - 1 else ((n / 2 : Nat) : Int)
theorem unfold_fold {n : Int} : unfoldN (foldN n) = n := by
  unfold unfoldN foldN
  split <;> split at * <;> omega

/-- The room of a new buffer. -/
def roomOf (room : Int) : Nat := (min (max room 0) 16777216).toNat
theorem roomOf_le (room : Int) : roomOf room ≤ 16777216 := by unfold roomOf; omega
theorem roomOf_neg {room : Int} (h : room < 0) : ((roomOf room : Nat) : Int) = 0 := by unfold roomOf; omega
theorem roomOf_mid {room : Int} (h : 0 ≤ room) (h2 : room ≤ 16777216) : ((roomOf room : Nat) : Int) = room := by unfold roomOf; omega
theorem roomOf_top {room : Int} (h : 16777216 < room) : ((roomOf room : Nat) : Int) = 16777216 := by unfold roomOf; omega

end Go.Proofs.Ytmpbganbhoknpaa
