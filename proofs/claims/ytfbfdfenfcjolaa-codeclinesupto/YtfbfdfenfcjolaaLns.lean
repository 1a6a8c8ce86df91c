/-
  What a text's lines are, and what strings.Cut at a line's end does.
-/
import Derived.Test.YtfbfdfenfcjolaaKnown
namespace Go.Proofs.Ytfbfdfenfcjolaa
open Go.RowKit

/-- A text's lines, without their ends. -/
def lns : List UInt8 → List (List UInt8)
  | [] => []
  | c :: r => if c == 10 then [] :: lns r else match lns r with
    | [] => [[c]]
    | l :: ls => (c :: l) :: ls

/-- The first line; what is behind it. -/
def headLn (l : List UInt8) : List UInt8 := l.takeWhile (· != 10)
def tailLn (l : List UInt8) : List UInt8 := (l.dropWhile (· != 10)).drop 1

theorem headLn_cons {c : UInt8} (r : List UInt8) (h : ¬ c = 10) : headLn (c :: r) = c :: headLn r := by
  simp [headLn, h]
theorem tailLn_cons {c : UInt8} (r : List UInt8) (h : ¬ c = 10) : tailLn (c :: r) = tailLn r := by
  simp [tailLn, h]

theorem lns_step : ∀ (l : List UInt8), l ≠ [] → lns l = headLn l :: lns (tailLn l)
  | [], h => absurd rfl h
  | c :: r, _ => by
    by_cases hc : c = 10
    · subst hc; simp [lns, headLn, tailLn]
    · have hc' : (c == 10) = false := by simpa using hc
      cases r with
      | nil => rw [headLn_cons _ hc, tailLn_cons _ hc]; simp [lns, headLn, tailLn, hc']
      | cons d r' =>
        have ih := lns_step (d :: r') (by simp)
        rw [headLn_cons _ hc, tailLn_cons _ hc, lns]
        simp only [hc', ih]
        rfl

theorem tailLn_length (l : List UInt8) (h : l ≠ []) : (tailLn l).length < l.length := by
  cases l with
  | nil => exact absurd rfl h
  | cons c r =>
    have h1 : (List.dropWhile (fun x => x != 10) (c :: r)).length ≤ (c :: r).length := (List.dropWhile_sublist _).length_le
    unfold tailLn
    rw [List.length_drop]
    simp only [List.length_cons] at h1 ⊢
    omega

theorem headLn_length (l : List UInt8) : (headLn l).length ≤ l.length := (List.takeWhile_sublist _).length_le

theorem headLn_lf (l : List UInt8) : (headLn l).any (· == 10) = false := by
  induction l with
  | nil => rfl
  | cons c r ih =>
    by_cases hc : c = 10
    · subst hc; simp [headLn]
    · rw [headLn_cons _ hc, List.any_cons, ih]; simp [hc]

theorem index_none : ∀ {l : List UInt8}, (∀ (k : Nat), l[k]? ≠ some 10) → headLn l = l ∧ tailLn l = []
  | [], _ => ⟨rfl, rfl⟩
  | c :: r, h => by
    have hc : ¬ c = 10 := fun e => h 0 (by simp [e])
    obtain ⟨a, b⟩ := index_none (l := r) (fun k => by have := h (k + 1); simpa using this)
    rw [headLn_cons _ hc, tailLn_cons _ hc, a, b]
    exact ⟨rfl, rfl⟩

theorem index_some : ∀ {l : List UInt8} {o : Nat}, Lib.indexByte l 10 = (o : Int) → headLn l = l.take o ∧ tailLn l = l.drop (o + 1) ∧ o < l.length
  | [], o, h => by simp [Lib.indexByte] at h
  | c :: r, o, h => by
    by_cases hc : c = 10
    · subst hc
      have : o = 0 := by simp [Lib.indexByte] at h; omega
      subst this
      simp [headLn, tailLn]
    · have hc' : (c == 10) = false := by simpa using hc
      rw [Lib.indexByte] at h
      simp only [hc'] at h
      by_cases hi : Lib.indexByte r 10 = -1
      · simp [hi] at h
      · have hge := Lib.indexByte_ge r 10
        obtain ⟨k, hk⟩ : ∃ k : Nat, Lib.indexByte r 10 = (k : Int) := ⟨(Lib.indexByte r 10).toNat, by omega⟩
        have hko : o = k + 1 := by
          rw [hk] at h
          have : ¬ ((k : Int) = -1) := by omega
          simp [this] at h
          omega
        subst hko
        obtain ⟨a, b, d⟩ := index_some (l := r) (o := k) hk
        refine ⟨?_, ?_, by simp; omega⟩
        · rw [headLn_cons _ hc, a]; rfl
        · rw [tailLn_cons _ hc, b]; rfl

/-- A line as a text. -/
def strL (l : List UInt8) : ByteArray := ⟨l.toArray⟩
theorem bytesOf_strL (l : List UInt8) : bytesOf (strL l) = l := by simp [bytesOf, strL]
theorem strL_bytesOf (s : ByteArray) : strL (bytesOf s) = s := by cases s; simp [bytesOf, strL]
theorem strL_size (l : List UInt8) : (strL l).size = l.length := by rw [← bytesOf_length, bytesOf_strL]

theorem extract_eq (s : ByteArray) (a b : Nat) : s.extract a b = strL (((bytesOf s).take b).drop a) := by
  rw [← strL_bytesOf (s.extract a b)]
  congr 1
  simp [bytesOf, List.drop_take]

end Go.Proofs.Ytfbfdfenfcjolaa
