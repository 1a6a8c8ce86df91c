/-
  Words one behind the other: how far they reach; what a slice of words is in memory.
-/
import Derived.Test.YtmaaiahapmplgaaLBlanks
import Derived.Test.YtmaaiahapmplgaaLReadWord
namespace Go.Proofs.Ytmaaiahapmplgaa
open Go.RowKit

theorem skipF_le : ∀ (f : Nat) (l : List UInt8) (n : Nat), skipF f l = some n → n ≤ l.length
  | 0, l, n, h => by simp [skipF] at h; omega
  | f + 1, [], n, h => by simp [skipF] at h; omega
  | f + 1, c :: r, n, h => by
    simp only [skipF] at h
    split at h
    · cases hr : skipF f r with
      | none => rw [hr] at h; simp at h
      | some k => rw [hr] at h; have := skipF_le f r k hr; simp at h ⊢; omega
    · split at h
      · cases hk : remEnd (r.drop 1) with
        | none => rw [hk] at h; simp at h
        | some k =>
          rw [hk] at h
          have h2 := remEnd_lt hk
          simp only at h
          cases hr : skipF f ((r.drop 1).drop (k + 2)) with
          | none => rw [hr] at h; simp at h
          | some j =>
            rw [hr] at h
            have h1 := skipF_le f _ j hr
            simp at h h1 h2 ⊢
            omega
      · simp at h; omega

theorem skip_le {l : List UInt8} {n : Nat} (h : skip l = some n) : n ≤ l.length := skipF_le _ _ _ h

theorem quo_le : ∀ (l : List UInt8) (bs : List UInt8) (n : Nat), quo l = .ok (bs, n) → n ≤ l.length
  | [], bs, n, h => by simp [quo] at h
  | c :: r, bs, n, h => by
    rw [quo.eq_def] at h
    simp only at h
    split at h
    · simp at h; simp; omega
    · split at h
      · simp at h
      · split at h
        · cases r with
          | nil => simp at h
          | cons d r' =>
            simp only at h
            cases hu : unesc d with
            | none => rw [hu] at h; simp at h
            | some b =>
              rw [hu] at h
              simp only at h
              cases hq : quo r' with
              | error e => rw [hq] at h; simp at h
              | ok y =>
                obtain ⟨bs', n'⟩ := y
                rw [hq] at h
                have := quo_le r' bs' n' hq
                simp at h ⊢
                omega
        · cases hq : quo r with
          | error e => rw [hq] at h; simp at h
          | ok y =>
            obtain ⟨bs', n'⟩ := y
            rw [hq] at h
            have := quo_le r bs' n' hq
            simp at h ⊢
            omega

theorem tw_len (pred : UInt8 → Bool) (l : List UInt8) : tw pred l ≤ l.length := (List.takeWhile_sublist _).length_le

theorem wordOf_le {c : UInt8} {r : List UInt8} {k : Nat} {t : List UInt8} {v m : Nat} (h : wordOf c r = .ok (k, t, v, m)) : m ≤ r.length + 1 := by
  have hd := tw_len isDig (c :: r)
  have hl := tw_len isLD (c :: r)
  simp only [List.length_cons] at hd hl
  unfold tw at hd hl
  unfold wordOf at h
  split at h
  · simp only at h
    split at h
    · cases h
    · simp only [Except.ok.injEq, Prod.mk.injEq] at h; omega
  · split at h
    · simp only at h
      split at h
      · cases h
      · split at h
        · cases h
        · split at h
          · cases h
          · simp only [Except.ok.injEq, Prod.mk.injEq] at h; omega
    · split at h
      · cases hq : quo r with
        | error e => rw [hq] at h; simp at h
        | ok y =>
          obtain ⟨bs, n⟩ := y
          rw [hq] at h
          have := quo_le r bs n hq
          simp only [Except.ok.injEq, Prod.mk.injEq] at h
          omega
      · split at h
        · rename_i hp
          have : 1 ≤ r.length := by
            cases r with
            | nil => simp [pairAt] at hp
            | cons d t => simp
          simp only [Except.ok.injEq, Prod.mk.injEq] at h; omega
        · split at h
          · simp only [Except.ok.injEq, Prod.mk.injEq] at h; omega
          · cases h

/-- A word's cells. -/
def tokCell (t : Tok) : List Value := [.int .i64 (t.kind : Int), .string (strL t.text), .int .i64 (t.n : Int), .int .i64 (t.at_ : Int)]
def tokCells (ts : List Tok) : List Value := ts.flatMap tokCell
theorem tokCells_snoc (ts : List Tok) (t : Tok) : tokCells (ts ++ [t]) = tokCells ts ++ tokCell t := by simp [tokCells]

/-- Words behind words. -/
def tsh (ts : List Tok) : Except Mis (List Tok) → Except Mis (List Tok)
  | .error e => .error e
  | .ok us => .ok (ts ++ us)

theorem tsh_nil (x : Except Mis (List Tok)) : tsh [] x = x := by cases x <;> rfl

/-- What Tokens hands back: the words, or the mishap. -/
def TokOut (t : TypeId) (w : World) (r : Except Mis (List Tok)) (e : Ending) (w' : World) : Prop := match r with
  | .error (c, k) => e = .returned (.tuple #[.slice none 0 0, .agg #[.int .i64 (c : Int), .int .i64 (k : Int)]]) ∧ Kept [] w w'
  | .ok ts => ∃ v, e = .returned (.tuple #[v, .agg #[.int .i64 0, .int .i64 0]]) ∧ w'.ownsRow w.heap.size t 4 v ts.length (tokCells ts) ∧ Kept [] w w'

end Go.Proofs.Ytmaaiahapmplgaa
