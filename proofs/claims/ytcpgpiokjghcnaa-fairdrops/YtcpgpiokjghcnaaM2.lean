/-
  Plain, NGraph, NMayP.
-/
import Derived.Laws.BitsAllLaws
import Derived.WalkKit
import Derived.Test.YtcpgpiokjghcnaaM1
/-
  What numbers and texts are as bytes: plain functions on lists of bytes and numbers, and their laws; nothing of the program.
-/
namespace Go.Proofs.Ytcpgpiokjghcnaa

/-- A number's bytes: groups of seven binary digits, the lowest first, 128 added to each but the last. -/
def encU (n : Nat) : List UInt8 :=
  if h : n < 128 then [UInt8.ofNat n] else UInt8.ofNat (n % 128 + 128) :: encU (n / 128)
termination_by n
decreasing_by omega

theorem encU_small {n : Nat} (h : n < 128) : encU n = [UInt8.ofNat n] := by
  rw [encU, dif_pos h]

theorem encU_big {n : Nat} (h : ¬ n < 128) : encU n = UInt8.ofNat (n % 128 + 128) :: encU (n / 128) := by
  rw [encU, dif_neg h]

theorem encU_pos (n : Nat) : 1 ≤ (encU n).length := by
  by_cases h : n < 128
  · rw [encU_small h]; simp
  · rw [encU_big h]; simp

theorem encU_le (k n : Nat) (h : n < 128 ^ (k + 1)) : (encU n).length ≤ k + 1 := by
  induction k generalizing n with
  | zero => rw [encU_small (by simpa using h)]; simp
  | succ k ih =>
    by_cases hn : n < 128
    · rw [encU_small hn]; simp
    · rw [encU_big hn]
      have : n / 128 < 128 ^ (k + 1) := by rw [Nat.div_lt_iff_lt_mul (by decide)]; rw [Nat.pow_succ] at h; exact h
      have := ih _ this
      simp; omega

theorem encU_ten {n : Nat} (h : n < 18446744073709551616) : (encU n).length ≤ 10 :=
  encU_le 9 n (by have : (18446744073709551616 : Nat) ≤ 128 ^ 10 := by decide
                  omega)

/-- Bytes as cells. -/
def cellsOf (bs : List UInt8) : List Value := bs.map fun b => Value.int .u8 (b.toNat : Int)

theorem cellsOf_length (bs : List UInt8) : (cellsOf bs).length = bs.length := by simp [cellsOf]
theorem cellsOf_append (a b : List UInt8) : cellsOf (a ++ b) = cellsOf a ++ cellsOf b := by simp [cellsOf]
theorem cellsOf_nil : cellsOf [] = [] := rfl
theorem cellsOf_one (b : UInt8) : cellsOf [b] = [Value.int .u8 (b.toNat : Int)] := rfl
theorem cellsOf_oneCell (bs : List UInt8) : ∀ u ∈ cellsOf bs, u.oneCell' = true := by
  intro u hu
  obtain ⟨b, _, rfl⟩ := List.mem_map.1 hu
  rfl

set_option maxRecDepth 100000 in
theorem or128 : ∀ x : Fin 256, x.val ||| 128 = x.val % 128 + 128 := by decide +kernel

theorem byte_or128 (m : Nat) : bits .or .u8 ((m : Int) % 256) 128 = ((UInt8.ofNat (m % 128 + 128)).toNat : Int) := by
  have e : ((m : Int) % 256) = ((m % 256 : Nat) : Int) := by omega
  have h := u8_or_nat (m % 256) 128 (by omega) (by decide)
  rw [e, show ((128 : Int)) = ((128 : Nat) : Int) from rfl, h, or128 ⟨m % 256, by omega⟩]
  have : (UInt8.ofNat (m % 128 + 128)).toNat = m % 128 + 128 := by rw [UInt8.toNat_ofNat']; omega
  rw [this]
  show ((m % 256 % 128 + 128 : Nat) : Int) = _
  omega

theorem byte_low (m : Nat) : ((m : Int) % 256) = ((UInt8.ofNat m).toNat : Int) := by
  rw [UInt8.toNat_ofNat']; omega

theorem nat_not64 (x : Nat) (h : x < 18446744073709551616) : 18446744073709551615 ^^^ x = 18446744073709551615 - x := by
  have e : (18446744073709551615 : Nat) ^^^ x = (BitVec.allOnes 64 ^^^ BitVec.ofNat 64 x).toNat := by
    rw [BitVec.toNat_xor, BitVec.toNat_allOnes, BitVec.toNat_ofNat, Nat.mod_eq_of_lt h]
  rw [e, BitVec.allOnes_xor, BitVec.toNat_not, BitVec.toNat_ofNat, Nat.mod_eq_of_lt h]

theorem u64_not (x : Int) (h0 : 0 ≤ x) (h : x < 18446744073709551616) : bits .xor .u64 18446744073709551615 x = 18446744073709551615 - x := by
  obtain ⟨n, rfl⟩ := Int.eq_ofNat_of_zero_le h0
  have e := u64_xor_nat 18446744073709551615 n (by decide) (by omega)
  rw [nat_not64 n (by omega)] at e
  have e1 : ((18446744073709551615 : Nat) : Int) = 18446744073709551615 := rfl
  rw [e1] at e
  rw [e]
  omega

/-- A signed number's number without a sign. -/
def foldN (n : Int) : Nat := (if n < 0 then -2 * n - 1 else 2 * n).toNat
theorem foldN_neg {n : Int} (h : n < 0) : ((foldN n : Nat) : Int) = -2 * n - 1 := by unfold foldN; rw [if_pos h]; omega
theorem foldN_pos {n : Int} (h : 0 ≤ n) : ((foldN n : Nat) : Int) = n * 2 := by unfold foldN; rw [if_neg (by omega)]; omega
theorem foldN_lt {n : Int} (h0 : -9223372036854775808 ≤ n) (h1 : n ≤ 9223372036854775807) : ((foldN n : Nat) : Int) < 18446744073709551616 := by unfold foldN; split <;> omega

theorem fold_bits {n : Int} (h0 : -9223372036854775808 ≤ n) (h : n < 0) : bits .xor .u64 IntKind.u64.max (IntKind.u64.wrap (IntKind.u64.wrap n * 2)) = ((foldN n : Nat) : Int) := by
  have e : IntKind.u64.wrap (IntKind.u64.wrap n * 2) = 2 * n + 18446744073709551616 := by rw [IntKind.wrap_u64, IntKind.wrap_u64]; omega
  have e2 : IntKind.u64.max = 18446744073709551615 := by decide
  rw [e, e2, u64_not _ (by omega) (by omega), foldN_neg h]
  omega

/-- May a fixed number have so many bytes? -/
def isSizeB (n : Int) : Bool := n == 1 || n == 2 || n == 4 || n == 8
theorem isSizeB_le {n : Int} (h : isSizeB n = true) : n = 1 ∨ n = 2 ∨ n = 4 ∨ n = 8 := by
  simp [isSizeB] at h; omega

/-- A fixed number's bytes: its lowest k bytes, the lowest first. -/
def fixedN (k n : Nat) : List UInt8 := (List.range k).map fun i => UInt8.ofNat (n / 2 ^ (8 * i))
theorem fixedN_length (k n : Nat) : (fixedN k n).length = k := by simp [fixedN]
theorem fixedN_succ (k n : Nat) : fixedN (k + 1) n = fixedN k n ++ [UInt8.ofNat (n / 2 ^ (8 * k))] := by simp [fixedN, List.range_succ]
theorem fixed_byte (n i : Nat) : ((n : Int) / 2 ^ (8 * i)) % 256 = ((UInt8.ofNat (n / 2 ^ (8 * i))).toNat : Int) := by
  rw [← byte_low, Int.natCast_ediv, Int.natCast_pow]
  rfl

theorem bits_not (x : Int) (h0 : 0 ≤ x) (h1 : x < 9223372036854775808) : bits .xor .i64 (-1) x = -x - 1 := by
  obtain ⟨n, rfl⟩ := Int.eq_ofNat_of_zero_le h0
  have e : (BitVec.ofInt 64 (-1) ^^^ BitVec.ofInt 64 (n : Int)).toNat = 18446744073709551615 - n := by
    rw [show BitVec.ofInt 64 (-1) = BitVec.allOnes 64 from by decide, BitVec.allOnes_xor, BitVec.toNat_not, ofInt_u64 n (by omega)]
  show IntKind.i64.wrap ((BitVec.ofInt 64 (-1) ^^^ BitVec.ofInt 64 (n : Int)).toNat : Int) = _
  rw [e, IntKind.wrap_i64]
  omega

/-- The value of a fixed number's bytes. -/
def fixVal : List UInt8 → Nat
  | [] => 0
  | b :: r => b.toNat + 256 * fixVal r

theorem fixVal_snoc (l : List UInt8) (b : UInt8) : fixVal (l ++ [b]) = fixVal l + b.toNat * 2 ^ (8 * l.length) := by
  induction l with
  | nil => simp [fixVal]
  | cons c r ih =>
    have e : (2 : Nat) ^ (8 * (r.length + 1)) = 256 * 2 ^ (8 * r.length) := by rw [Nat.mul_add, Nat.pow_add, Nat.mul_comm]
    rw [List.cons_append, fixVal, fixVal, ih, List.length_cons, e, Nat.mul_add, ← Nat.mul_assoc, ← Nat.mul_assoc, Nat.mul_comm b.toNat 256]
    omega

theorem fixVal_lt (l : List UInt8) : fixVal l < 2 ^ (8 * l.length) := by
  induction l with
  | nil => simp [fixVal]
  | cons c r ih =>
    have e : (2 : Nat) ^ (8 * (r.length + 1)) = 256 * 2 ^ (8 * r.length) := by rw [Nat.mul_add, Nat.pow_add, Nat.mul_comm]
    have := c.toNat_lt
    rw [fixVal, List.length_cons, e]
    omega

/-- One byte more. -/
theorem fix_step (l : List UInt8) (b : UInt8) (h : l.length ≤ 7) :
    bits .or .u64 (fixVal l : Int) (IntKind.u64.wrap (IntKind.u64.wrap ((b.toNat : Nat) : Int) * 2 ^ (8 * l.length))) = (fixVal (l ++ [b]) : Int) := by
  have hb := b.toNat_lt
  have hl := fixVal_lt l
  have e3 : ((b.toNat : Nat) : Int) * 2 ^ (8 * l.length) = ((b.toNat * 2 ^ (8 * l.length) : Nat) : Int) := by rw [Int.natCast_mul, Int.natCast_pow]; rfl
  have hm : b.toNat * 2 ^ (8 * l.length) < 18446744073709551616 :=
    Nat.lt_of_le_of_lt (Nat.mul_le_mul (by omega : b.toNat ≤ 255) (Nat.pow_le_pow_right (by decide) (by omega : 8 * l.length ≤ 8 * 7))) (by decide : (255 * 2 ^ (8 * 7) : Nat) < 18446744073709551616)
  have h2 : fixVal l < 18446744073709551616 := Nat.lt_of_lt_of_le hl (Nat.le_trans (Nat.pow_le_pow_right (by decide) (by omega : 8 * l.length ≤ 64)) (by decide))
  have e1 : IntKind.u64.wrap ((b.toNat : Nat) : Int) = ((b.toNat : Nat) : Int) := by rw [IntKind.wrap_u64]; omega
  have e4 : IntKind.u64.wrap ((b.toNat * 2 ^ (8 * l.length) : Nat) : Int) = ((b.toNat * 2 ^ (8 * l.length) : Nat) : Int) := by rw [IntKind.wrap_u64]; omega
  rw [e1, e3, e4, u64_or_nat _ _ h2 hm, Nat.or_comm, nat_join (8 * l.length) _ _ (Nat.mul_mod_left _ _) hl, fixVal_snoc, Nat.add_comm]

/-- The signed number that foldN made n of. -/
def unfoldN (n : Nat) : Int := if n % 2 = 1 then -((n / 2 : Nat) : Int) - 1 else ((n / 2 : Nat) : Int)
theorem unfold_fold {n : Int} : unfoldN (foldN n) = n := by
  unfold unfoldN foldN
  split <;> split at * <;> omega

/-- The room of a new buffer. -/
def roomOf (room : Int) : Nat := (min (max room 0) 16777216).toNat
theorem roomOf_le (room : Int) : roomOf room ≤ 16777216 := by unfold roomOf; omega
theorem roomOf_neg {room : Int} (h : room < 0) : ((roomOf room : Nat) : Int) = 0 := by unfold roomOf; omega
theorem roomOf_mid {room : Int} (h : 0 ≤ room) (h2 : room ≤ 16777216) : ((roomOf room : Nat) : Int) = room := by unfold roomOf; omega
theorem roomOf_top {room : Int} (h : 16777216 < room) : ((roomOf room : Nat) : Int) = 16777216 := by unfold roomOf; omega

end Go.Proofs.Ytcpgpiokjghcnaa
/-
  Which graphs may be, and a graph as a system: plain data.
-/
namespace Go.Proofs.Ytcpgpiokjghcnaa

/-- Numbers from 0 on, rising, unlike. -/
def riseB : List Int → Bool
  | [] => true
  | [x] => decide (0 ≤ x)
  | x :: y :: r => decide (0 ≤ x) && decide (x < y) && riseB (y :: r)

def arcB (size : Nat) (a : Arc) : Bool :=
  riseB a.reads && riseB a.writes && decide (-1 ≤ a.proc) && decide (a.proc ≤ 15) && decide (0 ≤ a.bad) && decide (a.bad ≤ 5) && decide (0 ≤ a.to) && decide (a.to < size) && (decide (a.bad = 0) || decide (a.to = 0))

def arcsIn : List Node → Nat
  | [] => 0
  | x :: r => x.arcs.length + arcsIn r

/-- May a graph be? -/
def mayN (ns : List Node) : Bool := decide (1 ≤ ns.length) && decide (ns.length ≤ 20000) && decide (arcsIn ns ≤ 262144) && ns.all fun x => x.arcs.all (arcB ns.length)

/-- Bytes as a text. -/
def txt (l : List UInt8) : ByteArray := ⟨l.toArray⟩

/-- A node's state. -/
def nst (k : Nat) : ByteArray := txt (encU k)

/-- Which node's a state is. -/
def nodeNo (size : Nat) (st : ByteArray) : Option Nat := (List.range size).find? fun k => decide (nst k = st)

def movOf (k : Nat) (a : Arc) : Mov := ⟨a.proc, k, -1, -1, if a.bad = 0 then nst a.to.toNat else ⟨#[]⟩, a.bad, a.reads, a.writes, a.turns⟩

def movsOf (l : List Arc) : List Mov := (List.range l.length).zipWith movOf l

/-- A graph as a system. -/
def graphSem (ns : List Node) : Sem where
  begin := nst 0
  next st := match (nodeNo ns.length st).bind (ns[·]?) with
    | some x => movsOf x.arcs
    | none => []
  look st := match (nodeNo ns.length st).bind (ns[·]?) with
    | some x => ⟨x.props, x.en, x.pr, x.ac⟩
    | none => ⟨0, false, false, false⟩

end Go.Proofs.Ytcpgpiokjghcnaa
/-
  Which graphs may be, as it is found out number by number: plain data.
-/
namespace Go.Proofs.Ytcpgpiokjghcnaa

/-- Numbers that rise, the first one above 'last'. -/
def riseF (last : Int) : List Int → Bool
  | [] => true
  | x :: r => decide (last < x) && riseF x r

theorem riseB_cons (x : Int) (r : List Int) : riseB (x :: r) = (decide (0 ≤ x) && riseF x r) := by
  induction r generalizing x with
  | nil => simp [riseB, riseF]
  | cons y t ih =>
    rw [riseB, ih y, riseF]
    by_cases h0 : 0 ≤ x
    · by_cases h1 : x < y
      · simp [h0, h1, show 0 ≤ y by omega]
      · simp [h1]
    · simp [h0]
theorem riseB_eq (l : List Int) : riseB l = riseF (-1) l := by
  cases l with
  | nil => rfl
  | cons x r =>
    rw [riseB_cons, riseF]
    by_cases h : 0 ≤ x
    · simp [h, show (-1 : Int) < x by omega]
    · simp [h, show ¬ (-1 : Int) < x by omega]
/-- The number behind which the next one must rise. -/
def lastF (last : Int) : List Int → Int
  | [] => last
  | x :: r => lastF x r
theorem lastF_snoc (a : List Int) : ∀ (last x : Int), lastF last (a ++ [x]) = x := by
  induction a with
  | nil => intro _ _; rfl
  | cons y t ih => intro last x; rw [List.cons_append, lastF]; exact ih y x
/-- The first numbers rise up to one that doesn't. -/
theorem riseF_snoc (a : List Int) : ∀ (last x : Int) (r : List Int), ¬ lastF last a < x → riseF last (a ++ x :: r) = false := by
  induction a with
  | nil => intro last x r h; simp only [lastF] at h; simp [riseF, h]
  | cons y t ih =>
    intro last x r h2
    rw [List.cons_append, riseF, ih y x r h2]
    simp
theorem riseF_more (a : List Int) : ∀ (last x : Int), riseF last a = true → lastF last a < x → riseF last (a ++ [x]) = true := by
  induction a with
  | nil => intro last x _ h; simp only [lastF] at h; simp [riseF, h]
  | cons y t ih =>
    intro last x h1 h2
    rw [riseF, Bool.and_eq_true] at h1
    rw [List.cons_append, riseF, Bool.and_eq_true]
    exact ⟨h1.1, ih y x h1.2 h2⟩

theorem arcsIn_app (a b : List Node) : arcsIn (a ++ b) = arcsIn a + arcsIn b := by
  induction a with
  | nil => simp [arcsIn]
  | cons x r ih => rw [List.cons_append, arcsIn, arcsIn, ih]; omega
theorem arcsIn_take (ns : List Node) (i : Nat) (h : i < ns.length) : arcsIn (ns.take (i + 1)) = arcsIn (ns.take i) + ns[i].arcs.length := by
  rw [List.take_add_one, List.getElem?_eq_getElem h, Option.toList_some, arcsIn_app]
  simp [arcsIn]
theorem arcsIn_le (ns : List Node) (i : Nat) : arcsIn (ns.take i) ≤ arcsIn ns := by
  have h := arcsIn_app (ns.take i) (ns.drop i)
  rw [List.take_append_drop] at h
  omega

/-- What is found out of the first nodes. -/
structure MayTo (ns : List Node) (i : Nat) : Prop where
  l0 : 1 ≤ ns.length
  l1 : ns.length ≤ 20000
  cnt : arcsIn (ns.take i) ≤ 262144
  all : ∀ x ∈ ns.take i, x.arcs.all (arcB ns.length) = true
theorem MayTo.done {ns : List Node} (h : MayTo ns ns.length) : mayN ns = true := by
  have h1 := h.cnt
  have h2 := h.all
  rw [List.take_length] at h1 h2
  simp only [mayN, Bool.and_eq_true, decide_eq_true_eq, List.all_eq_true]
  exact ⟨⟨⟨h.l0, h.l1⟩, h1⟩, fun x hx => by have := h2 x hx; rw [List.all_eq_true] at this; exact this⟩
theorem MayTo.step {ns : List Node} {i : Nat} (h : MayTo ns i) (hi : i < ns.length) (hc : arcsIn (ns.take i) + ns[i].arcs.length ≤ 262144) (ha : ns[i].arcs.all (arcB ns.length) = true) : MayTo ns (i + 1) := by
  refine ⟨h.l0, h.l1, by rw [arcsIn_take ns i hi]; exact hc, fun x hx => ?_⟩
  rw [List.take_add_one, List.getElem?_eq_getElem hi, Option.toList_some] at hx
  rcases List.mem_append.1 hx with hx | hx
  · exact h.all x hx
  · rw [List.mem_singleton.1 hx]; exact ha
theorem may_short {ns : List Node} (h : ns.length < 1) : mayN ns = false := by
  simp only [mayN, Bool.and_eq_false_iff, decide_eq_false_iff_not]
  exact .inl (.inl (.inl (by omega)))
theorem may_long {ns : List Node} (h : 20000 < ns.length) : mayN ns = false := by
  simp only [mayN, Bool.and_eq_false_iff, decide_eq_false_iff_not]
  exact .inl (.inl (.inr (by omega)))
theorem may_many {ns : List Node} {i : Nat} (hi : i < ns.length) (hc : 262144 < arcsIn (ns.take i) + ns[i].arcs.length) : mayN ns = false := by
  simp only [mayN, Bool.and_eq_false_iff, decide_eq_false_iff_not]
  refine .inl (.inr ?_)
  have := arcsIn_le ns (i + 1)
  rw [arcsIn_take ns i hi] at this
  omega
theorem may_arc {ns : List Node} {i k : Nat} (hi : i < ns.length) (hk : k < ns[i].arcs.length) (h : arcB ns.length ns[i].arcs[k] = false) : mayN ns = false := by
  cases hm : mayN ns with
  | false => rfl
  | true =>
    simp only [mayN, Bool.and_eq_true, List.all_eq_true] at hm
    have := hm.2 ns[i] (List.getElem_mem hi) ns[i].arcs[k] (List.getElem_mem hk)
    rw [this] at h
    cases h

/-- What is asked of an arc, in the program's order. -/
def arcG (size : Nat) (a : Arc) : Bool :=
  decide (-1 ≤ a.proc) && decide (a.proc ≤ 15) && (decide (0 ≤ a.bad) && decide (a.bad ≤ 5)) && (decide (0 ≤ a.to) && decide (a.to < (if a.bad = 0 then (size : Int) else 1))) && riseB a.reads && riseB a.writes
theorem arcG_eq {size : Nat} (hs : 1 ≤ size) (a : Arc) : arcG size a = arcB size a := by
  rw [Bool.eq_iff_iff]
  unfold arcG arcB
  simp only [Bool.and_eq_true, Bool.or_eq_true, decide_eq_true_eq]
  by_cases hb : a.bad = 0
  · rw [if_pos hb]
    constructor
    · rintro ⟨⟨⟨⟨⟨h1, h2⟩, h3, h4⟩, h5, h6⟩, h7⟩, h8⟩
      exact ⟨⟨⟨⟨⟨⟨⟨⟨h7, h8⟩, h1⟩, h2⟩, h3⟩, h4⟩, h5⟩, h6⟩, .inl hb⟩
    · rintro ⟨⟨⟨⟨⟨⟨⟨⟨h7, h8⟩, h1⟩, h2⟩, h3⟩, h4⟩, h5⟩, h6⟩, _⟩
      exact ⟨⟨⟨⟨⟨h1, h2⟩, h3, h4⟩, h5, h6⟩, h7⟩, h8⟩
  · rw [if_neg hb]
    constructor
    · rintro ⟨⟨⟨⟨⟨h1, h2⟩, h3, h4⟩, h5, h6⟩, h7⟩, h8⟩
      exact ⟨⟨⟨⟨⟨⟨⟨⟨h7, h8⟩, h1⟩, h2⟩, h3⟩, h4⟩, h5⟩, by omega⟩, .inr (by omega)⟩
    · rintro ⟨⟨⟨⟨⟨⟨⟨⟨h7, h8⟩, h1⟩, h2⟩, h3⟩, h4⟩, h5⟩, h6⟩, ho⟩
      have h0 : a.to = 0 := ho.elim (fun h => absurd h hb) id
      exact ⟨⟨⟨⟨⟨h1, h2⟩, h3, h4⟩, h5, by omega⟩, h7⟩, h8⟩

end Go.Proofs.Ytcpgpiokjghcnaa
