/-
  Chains of numbers, told by what they are: the last number below n of a class; rows of cells told by a function; plain.
-/
import Derived.Test.YtmpbganbhoknpaaYPlain
import Derived.Test.YtmpbganbhoknpaaAppend
namespace Go.Proofs.Ytmpbganbhoknpaa
open Go.RowKit

/-- The last number below n of which p holds, or -1. -/
def lst (p : Nat → Bool) : Nat → Int
  | 0 => -1
  | n + 1 => if p n = true then (n : Int) else lst p n
theorem lst_lo (p : Nat → Bool) : ∀ n, -1 ≤ lst p n
  | 0 => by show (-1 : Int) ≤ -1; omega
  | n + 1 => by
    unfold lst
    split
    · omega
    · exact lst_lo p n
theorem lst_hi (p : Nat → Bool) : ∀ n, lst p n < (n : Int)
  | 0 => by show (-1 : Int) < 0; omega
  | n + 1 => by
    have := lst_hi p n
    unfold lst
    split <;> omega
theorem lst_none {p : Nat → Bool} : ∀ {n : Nat}, lst p n = -1 → ∀ j, j < n → p j = false
  | 0, _, j, hj => absurd hj (Nat.not_lt_zero _)
  | n + 1, h, j, hj => by
    unfold lst at h
    split at h
    · omega
    · rename_i hp
      rcases Nat.lt_or_ge j n with h1 | h1
      · exact lst_none h j h1
      · obtain rfl : j = n := by omega
        simpa using hp
theorem lst_some {p : Nat → Bool} : ∀ {n i : Nat}, lst p n = (i : Int) → i < n ∧ p i = true ∧ ∀ j, i < j → j < n → p j = false
  | 0, i, h => by
    exfalso
    unfold lst at h
    omega
  | n + 1, i, h => by
    unfold lst at h
    split at h
    · rename_i hp
      obtain rfl : n = i := by omega
      exact ⟨by omega, hp, fun j h1 h2 => by omega⟩
    · rename_i hp
      obtain ⟨h1, h2, h3⟩ := lst_some h
      refine ⟨by omega, h2, fun j h4 h5 => ?_⟩
      rcases Nat.lt_or_ge j n with h6 | h6
      · exact h3 j h4 h6
      · obtain rfl : j = n := by omega
        simpa using hp
theorem lst_congr {p q : Nat → Bool} : ∀ {n : Nat}, (∀ i, i < n → p i = q i) → lst p n = lst q n
  | 0, _ => rfl
  | n + 1, h => by
    unfold lst
    rw [h n (by omega), lst_congr (fun i hi => h i (by omega))]

/-- Rows of cells, one behind the other. -/
def rowsC (f : Nat → List Value) : Nat → List Value
  | 0 => []
  | n + 1 => rowsC f n ++ f n
theorem rowsC_length {f : Nat → List Value} {k : Nat} : ∀ {n : Nat}, (∀ i, i < n → (f i).length = k) → (rowsC f n).length = n * k
  | 0, _ => by simp [rowsC]
  | n + 1, h => by
    rw [rowsC, List.length_append, rowsC_length (fun i hi => h i (by omega)), h n (by omega), Nat.succ_mul]
theorem rowsC_congr {f g : Nat → List Value} : ∀ {n : Nat}, (∀ i, i < n → f i = g i) → rowsC f n = rowsC g n
  | 0, _ => rfl
  | n + 1, h => by rw [rowsC, rowsC, h n (by omega), rowsC_congr (fun i hi => h i (by omega))]
theorem rowsC_get {f : Nat → List Value} {k : Nat} : ∀ {n : Nat}, (∀ i, i < n → (f i).length = k) → ∀ i j, i < n → j < k → (rowsC f n)[i * k + j]? = (f i)[j]?
  | 0, _, i, _, hi, _ => absurd hi (Nat.not_lt_zero _)
  | n + 1, h, i, j, hi, hj => by
    have hl := rowsC_length (f := f) (k := k) (n := n) (fun i hi => h i (by omega))
    rw [rowsC]
    rcases Nat.lt_or_ge i n with h1 | h1
    · have h2 : i * k + j < n * k := by
        have : (i + 1) * k ≤ n * k := Nat.mul_le_mul_right k h1
        rw [Nat.succ_mul] at this
        omega
      rw [List.getElem?_append_left (by rw [hl]; exact h2)]
      exact rowsC_get (fun i hi => h i (by omega)) i j h1 hj
    · obtain rfl : i = n := by omega
      rw [List.getElem?_append_right (by rw [hl]; omega), hl]
      congr 1
      omega
theorem rowsC_set {f g : Nat → List Value} {k : Nat} : ∀ {n : Nat}, (∀ i, i < n → (f i).length = k) → ∀ i j u, i < n → j < k → (∀ x, x < n → x ≠ i → g x = f x) → g i = (f i).set j u → (rowsC f n).set (i * k + j) u = rowsC g n
  | 0, _, i, _, _, hi, _, _, _ => absurd hi (Nat.not_lt_zero _)
  | n + 1, h, i, j, u, hi, hj, ho, he => by
    have hl := rowsC_length (f := f) (k := k) (n := n) (fun i hi => h i (by omega))
    rw [rowsC, rowsC]
    rcases Nat.lt_or_ge i n with h1 | h1
    · have h2 : i * k + j < n * k := by
        have : (i + 1) * k ≤ n * k := Nat.mul_le_mul_right k h1
        rw [Nat.succ_mul] at this
        omega
      rw [List.set_append_left _ _ (by rw [hl]; exact h2), rowsC_set (fun i hi => h i (by omega)) i j u h1 hj (fun x hx hne => ho x (by omega) hne) he, ho n (by omega) (by omega)]
    · obtain rfl : i = n := by omega
      rw [List.set_append_right _ _ (by rw [hl]; omega), hl, show i * k + j - i * k = j by omega, ← he, rowsC_congr (fun x hx => (ho x (by omega) (by omega)).symm)]

/-- All texts, one behind the other. -/
def joinL : List ByteArray → List UInt8
  | [] => []
  | s :: r => bytesOf s ++ joinL r
theorem joinL_append (a b : List ByteArray) : joinL (a ++ b) = joinL a ++ joinL b := by
  induction a with
  | nil => rfl
  | cons s r ih => rw [List.cons_append, joinL, joinL, ih, List.append_assoc]
theorem joinL_length (L : List ByteArray) : (joinL L).length = bytesIn L := by
  induction L with
  | nil => rfl
  | cons s r ih => rw [joinL, List.length_append, ih, bytesOf_length]; rfl

/-- Where a text begins. -/
def offL (L : List ByteArray) (i : Nat) : Nat := bytesIn (L.take i)
theorem offL_succ {L : List ByteArray} {i : Nat} {s : ByteArray} (h : L[i]? = some s) : offL L (i + 1) = offL L i + s.size := by
  obtain ⟨hi, he⟩ := List.getElem?_eq_some_iff.1 h
  unfold offL
  rw [List.take_succ_eq_append_getElem hi, bytesIn_append, he]
  simp [bytesIn]
theorem offL_le (L : List ByteArray) (i : Nat) : offL L i ≤ bytesIn L := by
  have h := bytesIn_append (L.take i) (L.drop i)
  rw [List.take_append_drop] at h
  unfold offL
  omega
theorem offL_all (L : List ByteArray) : offL L L.length = bytesIn L := by unfold offL; rw [List.take_length]
theorem offL_app {L : List ByteArray} {i : Nat} (h : i ≤ L.length) (s : ByteArray) : offL (L ++ [s]) i = offL L i := by
  unfold offL
  rw [List.take_append_of_le_length h]
/-- A text's bytes lie from there on. -/
theorem joinL_get {L : List ByteArray} {i : Nat} {s : ByteArray} (h : L[i]? = some s) {j : Nat} (hj : j < s.size) : (joinL L)[offL L i + j]? = (bytesOf s)[j]? := by
  obtain ⟨hi, he⟩ := List.getElem?_eq_some_iff.1 h
  have h1 : L = L.take i ++ ([s] ++ L.drop (i + 1)) := by
    rw [← he]
    simp
  have h2 : (joinL (L.take i)).length = offL L i := joinL_length _
  obtain ⟨o, ho⟩ : ∃ o, offL L i = o := ⟨_, rfl⟩
  rw [ho] at h2 ⊢
  rw [show joinL L = joinL (L.take i ++ ([s] ++ L.drop (i + 1))) from congrArg joinL h1]
  rw [joinL_append, List.getElem?_append_right (by rw [h2]; omega), h2, joinL_append, show joinL [s] = bytesOf s by simp [joinL], show o + j - o = j by omega]
  rw [List.getElem?_append_left (by rw [bytesOf_length]; exact hj)]

end Go.Proofs.Ytmpbganbhoknpaa
