/-
  Words whose places are moved; a remark ahead; a word's cells in a slice.
-/
import Derived.Test.YtmaaiahapmplgaaLAwake
namespace Go.Proofs.Ytmaaiahapmplgaa
open Go.RowKit

/-- Words, or a mishap, d places on. -/
def shT (d : Nat) (t : Tok) : Tok := ⟨t.kind, t.text, t.n, t.at_ + d⟩
def shE (d : Nat) : Except Mis (List Tok) → Except Mis (List Tok)
  | .error (e, k) => .error (e, k + d)
  | .ok ts => .ok (ts.map (shT d))

theorem toksF_shift (d : Nat) : ∀ (f p : Nat) (l : List UInt8), toksF f (p + d) l = shE d (toksF f p l)
  | 0, _, _ => rfl
  | f + 1, p, l => by
    simp only [toksF]
    cases skip l with
    | none => simp [shE]; omega
    | some n =>
      simp only
      cases l.drop n with
      | nil => rfl
      | cons c r =>
        simp only
        cases wordOf c r with
        | error x => obtain ⟨e, k⟩ := x; simp [shE]; omega
        | ok x =>
          obtain ⟨kind, t, v, m⟩ := x
          simp only
          have ih := toksF_shift d f (p + n + m) ((c :: r).drop m)
          rw [show p + d + n + m = p + n + m + d by omega, ih]
          cases toksF f (p + n + m) ((c :: r).drop m) with
          | error x => obtain ⟨e, k⟩ := x; rfl
          | ok ts => simp [shE, shT]; omega

theorem toksAt_shift (d p : Nat) (l : List UInt8) : toksAt (p + d) l = shE d (toksAt p l) := toksF_shift d _ p l

theorem toksAt_pre {pre x : List UInt8} {d : Nat} (p : Nat) (h : skip (pre ++ x) = (skip x).map (· + d)) (hd : pre.length = d) : toksAt p (pre ++ x) = toksAt (p + d) x := by
  cases hx : skip x with
  | none =>
    rw [hx] at h
    rw [toksAt_none h, toksAt_none hx, List.length_append, hd]
    congr 2
    omega
  | some n =>
    rw [hx] at h
    simp only [Option.map_some] at h
    have hdr : (pre ++ x).drop (n + d) = x.drop n := by
      rw [List.drop_append, List.drop_eq_nil_of_le (by omega), hd]
      simp
    cases hw : x.drop n with
    | nil => rw [toksAt_end h (by rw [hdr, hw]), toksAt_end hx hw]
    | cons c r =>
      cases ho : wordOf c r with
      | error y =>
        obtain ⟨e, k⟩ := y
        rw [toksAt_bad h (by rw [hdr, hw]) ho, toksAt_bad hx hw ho]
        congr 2
        omega
      | ok y =>
        obtain ⟨kind, t, v, m⟩ := y
        rw [toksAt_word h (by rw [hdr, hw]) ho, toksAt_word hx hw ho, show p + (n + d) + m = p + d + n + m by omega, show p + (n + d) = p + d + n by omega]

theorem remEnd_ahead : ∀ {r : List UInt8} (x : List UInt8), remEnd r = none → remEnd (r ++ 32 :: 42 :: 47 :: x) = some (r.length + 1)
  | [], x, _ => by simp [remEnd]
  | c :: r, x, h => by
    unfold remEnd at h
    split at h
    · cases h
    · rename_i hc
      have hr : remEnd r = none := by
        cases hr : remEnd r with
        | none => rfl
        | some k => rw [hr] at h; simp at h
      have ih := remEnd_ahead (r := r) x hr
      have hh : ¬ (c == 42 && (r ++ 32 :: 42 :: 47 :: x).head? == some 47) = true := by
        cases r with
        | nil => simp
        | cons d t => simpa using hc
      rw [List.cons_append, remEnd, if_neg hh, ih]
      simp

theorem remEnd_spot : ∀ {l : List UInt8} {k : Nat}, remEnd l = some k → l[k]? = some 42 ∧ l[k + 1]? = some 47
  | [], _, h => by simp [remEnd] at h
  | c :: r, k, h => by
    unfold remEnd at h
    split at h
    · rename_i hc
      cases h
      simp at hc
      obtain ⟨h1, h2⟩ := hc
      cases r with
      | nil => simp at h2
      | cons d t => simp at h2; simp [h1, h2]
    · cases hr : remEnd r with
      | none => rw [hr] at h; simp at h
      | some j =>
        rw [hr] at h
        simp at h
        subst h
        have := remEnd_spot hr
        simpa using this

/-- A remark ahead moves the words. -/
theorem tokens_remark {r x : List UInt8} (hr : remEnd r = none) (hl : r.length + 5 + x.length ≤ 65536) :
    tokens (47 :: 42 :: (r ++ 32 :: 42 :: 47 :: x)) = shE (r.length + 5) (tokens x) := by
  have hlen : (47 :: 42 :: (r ++ 32 :: 42 :: 47 :: x)).length = r.length + 5 + x.length := by simp; omega
  rw [tokens_short (by omega), tokens_short (by omega)]
  have e : (47 :: 42 :: (r ++ 32 :: 42 :: 47 :: x) : List UInt8) = (47 :: 42 :: (r ++ [32, 42, 47])) ++ x := by simp
  have hsk : skip ((47 :: 42 :: (r ++ [32, 42, 47])) ++ x) = (skip x).map (· + (r.length + 5)) := by
    rw [← e, skip_rem (remEnd_ahead x hr)]
    have hd : (r ++ 32 :: 42 :: 47 :: x).drop (r.length + 1 + 2) = x := by
      rw [List.drop_append, List.drop_eq_nil_of_le (by omega), show r.length + 1 + 2 - r.length = 3 by omega]
      rfl
    rw [hd]
  rw [e, toksAt_pre 0 hsk (by simp), ← toksAt_shift]

theorem toksF_code : ∀ (f p : Nat) (l : List UInt8) (e k : Nat), toksF f p l = .error (e, k) → ¬ e = 0
  | 0, _, _, _, _, h => by simp [toksF] at h
  | f + 1, p, l, e, k, h => by
    simp only [toksF] at h
    cases hs : skip l with
    | none => rw [hs] at h; simp at h; omega
    | some n =>
      rw [hs] at h
      simp only at h
      cases hd : l.drop n with
      | nil => rw [hd] at h; simp at h
      | cons c r =>
        rw [hd] at h
        simp only at h
        cases hw : wordOf c r with
        | error x => obtain ⟨e', k'⟩ := x; rw [hw] at h; have := wordOf_code hw; simp at h; omega
        | ok x =>
          obtain ⟨kind, t, v, m⟩ := x
          rw [hw] at h
          simp only at h
          cases ht : toksF f (p + n + m) ((c :: r).drop m) with
          | error x => obtain ⟨e', k'⟩ := x; rw [ht] at h; have := toksF_code f _ _ e' k' ht; simp at h; omega
          | ok ts => rw [ht] at h; simp at h

theorem tokens_code {l : List UInt8} {e k : Nat} (h : tokens l = .error (e, k)) : ¬ e = 0 := by
  unfold tokens at h
  split at h
  · simp at h; omega
  · exact toksF_code _ _ _ _ _ h

theorem tokCells_get : ∀ (ts : List Tok) (i : Nat) (h : i < ts.length) (f : Nat), f < 4 → (tokCells ts)[i * 4 + f]? = (tokCell ts[i])[f]?
  | [], i, h, _, _ => by simp at h
  | t :: ts, 0, _, f, hf => by
    show (tokCell t ++ tokCells ts)[0 * 4 + f]? = _
    rw [List.getElem?_append_left (by simp [tokCell]; omega)]
    simp
  | t :: ts, i + 1, h, f, hf => by
    show (tokCell t ++ tokCells ts)[(i + 1) * 4 + f]? = _
    rw [List.getElem?_append_right (by simp [tokCell]; omega), show (i + 1) * 4 + f - (tokCell t).length = i * 4 + f by simp [tokCell]; omega]
    exact tokCells_get ts i (by simpa using h) f hf

theorem quo_err : ∀ (l : List UInt8) (e k : Nat), quo l = .error (e, k) → k ≤ l.length
  | [], e, k, h => by simp [quo] at h; omega
  | c :: r, e, k, h => by
    rw [quo.eq_def] at h
    simp only at h
    split at h
    · simp at h
    · split at h
      · simp at h; omega
      · split at h
        · cases r with
          | nil => simp at h; omega
          | cons d r' =>
            simp only at h
            cases hu : unesc d with
            | none => rw [hu] at h; simp at h; omega
            | some b =>
              rw [hu] at h
              simp only at h
              cases hq : quo r' with
              | error y => obtain ⟨e', k'⟩ := y; rw [hq] at h; have := quo_err r' e' k' hq; simp at h ⊢; omega
              | ok y => obtain ⟨bs', n'⟩ := y; rw [hq] at h; simp at h
        · cases hq : quo r with
          | error y => obtain ⟨e', k'⟩ := y; rw [hq] at h; have := quo_err r e' k' hq; simp at h ⊢; omega
          | ok y => obtain ⟨bs', n'⟩ := y; rw [hq] at h; simp at h

theorem wordOf_err {c : UInt8} {r : List UInt8} {e k : Nat} (h : wordOf c r = .error (e, k)) : k ≤ r.length + 1 := by
  unfold wordOf at h
  split at h
  · simp only at h
    split at h
    · simp at h; omega
    · cases h
  · split at h
    · simp only at h
      split at h
      · simp at h; omega
      · split at h
        · simp at h; omega
        · split at h
          · simp at h; omega
          · cases h
    · split at h
      · cases hq : quo r with
        | error y => obtain ⟨e', k'⟩ := y; rw [hq] at h; have := quo_err r e' k' hq; simp at h; omega
        | ok y => obtain ⟨bs, n⟩ := y; rw [hq] at h; simp at h
      · split at h
        · cases h
        · split at h
          · cases h
          · simp at h; omega

/-- Places lie within the text; words are no more than its bytes. -/
theorem toksF_in : ∀ (f p : Nat) (l : List UInt8), (∀ e k, toksF f p l = .error (e, k) → k ≤ p + l.length) ∧ (∀ ts, toksF f p l = .ok ts → (∀ t ∈ ts, t.at_ ≤ p + l.length) ∧ ts.length ≤ l.length)
  | 0, p, l => ⟨fun e k h => by simp [toksF] at h, fun ts h => by simp [toksF] at h; subst h; simp⟩
  | f + 1, p, l => by
    simp only [toksF]
    cases hs : skip l with
    | none => exact ⟨fun e k h => by simp at h; omega, fun ts h => by simp at h⟩
    | some n =>
      simp only
      have hn := skip_le hs
      cases hd : l.drop n with
      | nil => exact ⟨fun e k h => by simp at h, fun ts h => by simp at h; subst h; simp⟩
      | cons c r =>
        simp only
        have hl : (c :: r).length = l.length - n := by rw [← hd]; simp
        simp only [List.length_cons] at hl
        cases hw : wordOf c r with
        | error x =>
          obtain ⟨e', k'⟩ := x
          have := wordOf_err hw
          exact ⟨fun e k h => by simp at h; omega, fun ts h => by simp at h⟩
        | ok x =>
          obtain ⟨kind, t, v, m⟩ := x
          have hm := wordOf_le hw
          have hm1 := wordOf_pos hw
          obtain ⟨i1, i2⟩ := toksF_in f (p + n + m) ((c :: r).drop m)
          simp only [List.length_drop, List.length_cons] at i1 i2
          simp only
          cases ht : toksF f (p + n + m) ((c :: r).drop m) with
          | error x =>
            obtain ⟨e', k'⟩ := x
            have := i1 e' k' ht
            exact ⟨fun e k h => by simp at h; omega, fun ts h => by simp at h⟩
          | ok us =>
            obtain ⟨j1, j2⟩ := i2 us ht
            refine ⟨fun e k h => by simp at h, fun ts h => ?_⟩
            simp at h
            subst h
            refine ⟨fun y hy => ?_, by simp; omega⟩
            rcases List.mem_cons.1 hy with rfl | hy
            · show p + n ≤ _; omega
            · have := j1 y hy; omega

theorem tokens_err {l : List UInt8} {e k : Nat} (h : tokens l = .error (e, k)) : k ≤ l.length := by
  unfold tokens at h
  split at h
  · simp at h; omega
  · have := (toksF_in _ 0 l).1 e k h; omega

theorem tokens_in {l : List UInt8} {ts : List Tok} (h : tokens l = .ok ts) : (∀ t ∈ ts, t.at_ ≤ l.length) ∧ ts.length ≤ l.length := by
  unfold tokens at h
  split at h
  · cases h
  · obtain ⟨h1, h2⟩ := (toksF_in _ 0 l).2 ts h
    exact ⟨fun t ht => by have := h1 t ht; omega, h2⟩

/-- The cells of word i. -/
theorem tok_cells {W : World} {base : Nat} {t : TypeId} {g n cap : Nat} {ts : List Tok} (h : W.ownsRow base t 4 (.slice (some ⟨g, 0, none⟩) n cap) n (tokCells ts)) (i : Nat) (hi : i < ts.length) :
    W.cell? ⟨g, i * 4, none⟩ = some (.int .i64 (ts[i].kind : Int)) ∧ W.cell? ⟨g, i * 4 + 1, none⟩ = some (.string (strL ts[i].text)) ∧ W.cell? ⟨g, i * 4 + 2, none⟩ = some (.int .i64 (ts[i].n : Int)) ∧ W.cell? ⟨g, i * 4 + 3, none⟩ = some (.int .i64 (ts[i].at_ : Int)) :=
  ⟨row_at h (i * 4) _ (tokCells_get ts i hi 0 (by omega)), row_at h (i * 4 + 1) _ (tokCells_get ts i hi 1 (by omega)), row_at h (i * 4 + 2) _ (tokCells_get ts i hi 2 (by omega)), row_at h (i * 4 + 3) _ (tokCells_get ts i hi 3 (by omega))⟩

end Go.Proofs.Ytmaaiahapmplgaa
