/-
  LPlain.
-/
import Derived.WalkKit
/-
  What a program's words are: plain functions on lists of bytes, and their laws; nothing of the program.
-/
namespace Go.Proofs.YthmdgbmodgfcmaaGreatDoor

def isBl (c : UInt8) : Bool := c == 9 || c == 10 || c == 13 || c == 32
def isLet (c : UInt8) : Bool := (97 ≤ c && c ≤ 122) || (65 ≤ c && c ≤ 90) || c == 95
def isDig (c : UInt8) : Bool := 48 ≤ c && c ≤ 57
def isLD (c : UInt8) : Bool := isLet c || isDig c

/-- The reserved words of letters, of two signs, of one. -/
def keyNames : List (List UInt8) := [[97, 99, 116, 105, 118, 101], [97, 115, 115, 101, 114, 116], [97, 116, 111, 109, 105, 99], [98, 105, 116], [98, 111, 111, 108], [98, 114, 101, 97, 107], [98, 121, 116, 101], [99, 104, 97, 110],
  [100, 95, 115, 116, 101, 112], [100, 111], [101, 108, 115, 101], [101, 109, 112, 116, 121], [101, 118, 97, 108], [102, 97, 108, 115, 101], [102, 105], [102, 117, 108, 108],
  [103, 111, 116, 111], [105, 102], [105, 110, 105, 116], [105, 110, 108, 105, 110, 101], [105, 110, 116], [108, 101, 110], [108, 116, 108], [109, 116, 121, 112, 101],
  [110, 101, 109, 112, 116, 121], [110, 101, 118, 101, 114], [110, 102, 117, 108, 108], [110, 112, 95], [111, 100], [111, 102], [112, 105, 100], [112, 114, 105, 110, 116, 102],
  [112, 114, 111, 99, 116, 121, 112, 101], [114, 117, 110], [115, 104, 111, 114, 116], [115, 107, 105, 112], [116, 105, 109, 101, 111, 117, 116], [116, 114, 117, 101], [116, 121, 112, 101, 100, 101, 102], [117, 110, 108, 101, 115, 115],
  [95], [95, 112, 105, 100], [95, 110, 114, 95, 112, 114]]
def pairs : List (List UInt8) := [[58, 58], [33, 33], [63, 63], [61, 61], [33, 61], [60, 61], [62, 61], [60, 60], [62, 62], [38, 38], [124, 124], [43, 43], [45, 45], [45, 62]]
def signs : List (List UInt8) := [[123], [125], [40], [41], [91], [93], [59], [44], [58], [46], [33], [63], [61], [60], [62], [43], [45], [42], [47], [37], [38], [124], [94], [126], [64]]

/-- Where a remark's end begins. -/
def remEnd : List UInt8 → Option Nat
  | [] => none
  | c :: r => if c == 42 && r.head? == some 47 then some 0 else (remEnd r).map (· + 1)

/-- How many bytes of blanks stand ahead. -/
def skipF : Nat → List UInt8 → Option Nat
  | 0, _ => some 0
  | _ + 1, [] => some 0
  | f + 1, c :: r =>
    if isBl c then (skipF f r).map (· + 1)
    else if c == 47 && r.head? == some 42 then
      match remEnd (r.drop 1) with
      | none => none
      | some k => (skipF f ((r.drop 1).drop (k + 2))).map (· + (k + 4))
    else some 0

def skip (l : List UInt8) : Option Nat := skipF l.length l

theorem skipF_fuel : ∀ (f g : Nat) (l : List UInt8), l.length ≤ f → l.length ≤ g → skipF f l = skipF g l
  | 0, 0, _, _, _ => rfl
  | 0, g + 1, l, h, _ => by
    have : l = [] := List.eq_nil_of_length_eq_zero (by omega)
    subst this; rfl
  | f + 1, 0, l, _, h => by
    have : l = [] := List.eq_nil_of_length_eq_zero (by omega)
    subst this; rfl
  | f + 1, g + 1, [], _, _ => rfl
  | f + 1, g + 1, c :: r, h1, h2 => by
    simp only [List.length_cons] at h1 h2
    have e1 := skipF_fuel f g r (by omega) (by omega)
    have e2 : ∀ k, skipF f ((r.drop 1).drop (k + 2)) = skipF g ((r.drop 1).drop (k + 2)) := fun k =>
      skipF_fuel f g _ (by simp; omega) (by simp; omega)
    simp only [skipF, e1, e2]

theorem skip_nil : skip [] = some 0 := rfl
theorem skip_blank {c : UInt8} {r : List UInt8} (h : isBl c = true) : skip (c :: r) = (skip r).map (· + 1) := by
  unfold skip; simp only [List.length_cons, skipF, h, if_true]
theorem skip_other {c : UInt8} {r : List UInt8} (h : isBl c = false) (h2 : (c == 47 && r.head? == some 42) = false) : skip (c :: r) = some 0 := by
  unfold skip; simp only [List.length_cons, skipF, h, h2]; rfl
theorem skip_open {r : List UInt8} (h : remEnd r = none) : skip (47 :: 42 :: r) = none := by
  unfold skip; simp only [List.length_cons, skipF]; simp [h, isBl]
theorem skip_rem {r : List UInt8} {k : Nat} (h : remEnd r = some k) : skip (47 :: 42 :: r) = (skip (r.drop (k + 2))).map (· + (k + 4)) := by
  unfold skip
  simp only [List.length_cons, skipF]
  have e : skipF (r.length + 1) (r.drop (k + 2)) = skipF (r.drop (k + 2)).length (r.drop (k + 2)) := skipF_fuel _ _ _ (by simp; omega) (Nat.le_refl _)
  simp [h, isBl, e]

/-- A word. -/
structure Tok where
  kind : Nat
  text : List UInt8
  n : Nat
  at_ : Nat
  deriving DecidableEq

/-- A mishap: its code, its place. -/
abbrev Mis := Nat × Nat

def valD (l : List UInt8) : Nat := l.foldl (fun n c => n * 10 + (c.toNat - 48)) 0

def unesc (c : UInt8) : Option UInt8 := if c == 110 then some 10 else if c == 116 then some 9 else if c == 92 || c == 34 then some c else none

/-- What stands up to the next quote: its bytes and how many there are with the quote; or the mishap, its place told from here. -/
def quo : List UInt8 → Except Mis (List UInt8 × Nat)
  | [] => .error (21, 0)
  | c :: r =>
    if c == 34 then .ok ([], 1)
    else if c < 32 || 126 < c then .error (22, 0)
    else if c == 92 then
      match r with
      | [] => .error (22, 0)
      | d :: r' => match unesc d with
        | none => .error (22, 0)
        | some b => match quo r' with
          | .error (e, k) => .error (e, k + 2)
          | .ok (bs, n) => .ok (b :: bs, n + 2)
    else match quo r with
      | .error (e, k) => .error (e, k + 1)
      | .ok (bs, n) => .ok (c :: bs, n + 1)

/-- Does a letter stand here? -/
def letAt : List UInt8 → Bool
  | [] => false
  | d :: _ => isLet d

/-- Does a reserved word of two signs stand here? -/
def pairAt (c : UInt8) : List UInt8 → Bool
  | [] => false
  | d :: _ => decide ([c, d] ∈ pairs)

/-- The word that bytes begin with (the first byte, the rest), and how many bytes it takes. -/
def wordOf (c : UInt8) (r : List UInt8) : Except Mis (Nat × List UInt8 × Nat × Nat) :=
  if isLet c then
    let m := (c :: r).takeWhile isLD
    if 32 < m.length then .error (22, 0) else .ok (if m ∈ keyNames then 4 else 1, m, 0, m.length)
  else if isDig c then
    let m := (c :: r).takeWhile isDig
    if 10 < m.length then .error (22, 0)
    else if letAt ((c :: r).drop m.length) then .error (22, 0)
    else if 2147483647 < valD m then .error (22, 0)
    else .ok (2, m, valD m, m.length)
  else if c == 34 then
    match quo r with
    | .error (e, k) => .error (e, k + 1)
    | .ok (bs, n) => .ok (3, bs, 0, n + 1)
  else if pairAt c r then .ok (4, (c :: r).take 2, 0, 2)
  else if [c] ∈ signs then .ok (4, [c], 0, 1)
  else .error (20, 0)

/-- The words of bytes that begin at the place p. -/
def toksF : Nat → Nat → List UInt8 → Except Mis (List Tok)
  | 0, _, _ => .ok []
  | f + 1, p, l =>
    match skip l with
    | none => .error (21, p + l.length)
    | some n => match l.drop n with
      | [] => .ok []
      | c :: r => match wordOf c r with
        | .error (e, k) => .error (e, p + n + k)
        | .ok (kind, text, v, m) => match toksF f (p + n + m) ((c :: r).drop m) with
          | .error e => .error e
          | .ok ts => .ok (⟨kind, text, v, p + n⟩ :: ts)

def toksAt (p : Nat) (l : List UInt8) : Except Mis (List Tok) := toksF (l.length + 1) p l

/-- P2.1 -/
def tokens (l : List UInt8) : Except Mis (List Tok) := if 65536 < l.length then .error (2, 0) else toksAt 0 l

theorem wordOf_pos {c : UInt8} {r : List UInt8} {k : Nat} {t : List UInt8} {v m : Nat} (h : wordOf c r = .ok (k, t, v, m)) : 1 ≤ m := by
  unfold wordOf at h
  split at h
  · rename_i hc
    have : 1 ≤ ((c :: r).takeWhile isLD).length := by simp [isLD, hc]
    simp only at h
    split at h
    · cases h
    · simp only [Except.ok.injEq, Prod.mk.injEq] at h; omega
  · split at h
    · rename_i hc
      have : 1 ≤ ((c :: r).takeWhile isDig).length := by simp [hc]
      simp only at h
      split at h
      · cases h
      · split at h
        · cases h
        · split at h
          · cases h
          · simp only [Except.ok.injEq, Prod.mk.injEq] at h; omega
    · split at h
      · split at h
        · cases h
        · simp only [Except.ok.injEq, Prod.mk.injEq] at h; omega
      · split at h
        · simp only [Except.ok.injEq, Prod.mk.injEq] at h; omega
        · split at h
          · simp only [Except.ok.injEq, Prod.mk.injEq] at h; omega
          · cases h

theorem toksF_fuel : ∀ (f g p : Nat) (l : List UInt8), l.length < f → l.length < g → toksF f p l = toksF g p l
  | 0, _, _, _, h, _ => absurd h (by omega)
  | _ + 1, 0, _, _, _, h => absurd h (by omega)
  | f + 1, g + 1, p, l, h1, h2 => by
    simp only [toksF]
    cases skip l with
    | none => rfl
    | some n =>
      simp only
      cases hd : l.drop n with
      | nil => rfl
      | cons c r =>
        simp only
        have hl : (c :: r).length ≤ l.length := by rw [← hd]; simp
        cases hw : wordOf c r with
        | error e => rfl
        | ok x =>
          obtain ⟨k, t, v, m⟩ := x
          have hm := wordOf_pos hw
          simp only
          rw [toksF_fuel f g (p + n + m) ((c :: r).drop m) (by simp at hl ⊢; omega) (by simp at hl ⊢; omega)]

theorem toksAt_none {p : Nat} {l : List UInt8} (h : skip l = none) : toksAt p l = .error (21, p + l.length) := by
  unfold toksAt; simp only [toksF, h]
theorem toksAt_end {p : Nat} {l : List UInt8} {n : Nat} (h : skip l = some n) (hd : l.drop n = []) : toksAt p l = .ok [] := by
  unfold toksAt; simp only [toksF, h, hd]
theorem toksAt_bad {p : Nat} {l : List UInt8} {n : Nat} {c : UInt8} {r : List UInt8} {e k : Nat} (h : skip l = some n) (hd : l.drop n = c :: r) (hw : wordOf c r = .error (e, k)) : toksAt p l = .error (e, p + n + k) := by
  unfold toksAt; simp only [toksF, h, hd, hw]
theorem toksAt_word {p : Nat} {l : List UInt8} {n : Nat} {c : UInt8} {r : List UInt8} {kind : Nat} {t : List UInt8} {v m : Nat} (h : skip l = some n) (hd : l.drop n = c :: r) (hw : wordOf c r = .ok (kind, t, v, m)) :
    toksAt p l = match toksAt (p + n + m) ((c :: r).drop m) with | .error e => .error e | .ok ts => .ok (⟨kind, t, v, p + n⟩ :: ts) := by
  have hm := wordOf_pos hw
  have hl : (c :: r).length ≤ l.length := by rw [← hd]; simp
  unfold toksAt
  rw [toksF_fuel (((c :: r).drop m).length + 1) l.length (p + n + m) ((c :: r).drop m) (by omega) (by simp at hl ⊢; omega)]
  simp only [toksF, h, hd, hw]

end Go.Proofs.YthmdgbmodgfcmaaGreatDoor
