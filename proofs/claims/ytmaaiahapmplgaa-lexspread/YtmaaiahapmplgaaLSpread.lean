/-
  Words, one blank between each two, are the same words again.
-/
import Derived.Test.YtmaaiahapmplgaaLJoin
import Derived.Test.YtmaaiahapmplgaaLDigits
namespace Go.Proofs.Ytmaaiahapmplgaa
open Go.RowKit

/-- What a word is but for its place. -/
def keyT (t : Tok) : Nat × List UInt8 × Nat := (t.kind, t.text, t.n)

/-- Nothing, or a blank and more. -/
def Apart32 (x : List UInt8) : Prop := x = [] ∨ ∃ y, x = 32 :: y

/-- A word that is itself again where a blank or nothing stands behind it. -/
def Again (t : Tok) : Prop := t.text.length ≤ 32 ∧ ∃ c r, t.text = c :: r ∧ ∀ x, Apart32 x → wordOf c (r ++ x) = .ok (t.kind, t.text, t.n, t.text.length) ∧ skip (c :: (r ++ x)) = some 0

theorem takeWhile_apart {pred : UInt8 → Bool} (h : pred 32 = false) {x : List UInt8} (hx : Apart32 x) : ∀ (l : List UInt8), (l.takeWhile pred ++ x).takeWhile pred = l.takeWhile pred
  | [] => by
    rcases hx with rfl | ⟨y, rfl⟩
    · rfl
    · simp [h]
  | d :: r => by
    by_cases hd : pred d = true
    · simp [hd, takeWhile_apart h hx r]
    · simp only [List.takeWhile_cons, hd]
      exact takeWhile_apart h hx []

theorem skip_word {c : UInt8} {r : List UInt8} {k : Nat} {t : List UInt8} {v m : Nat} (h : wordOf c r = .ok (k, t, v, m)) (h2 : ¬ (c = 47 ∧ r.head? = some 42)) : skip (c :: r) = some 0 := by
  refine skip_other ?_ ?_
  · cases hb : isBl c with
    | false => rfl
    | true =>
      exfalso
      unfold isBl at hb
      simp only [Bool.or_eq_true, beq_iff_eq] at hb
      have hp : ∀ c : UInt8, (((c = 9 ∨ c = 10) ∨ c = 13) ∨ c = 32) → isLet c = false ∧ isDig c = false ∧ (c == 34) = false ∧ [c] ∉ signs ∧ pairAt c r = false := by
        intro c hc
        rcases hc with ((rfl | rfl) | rfl) | rfl <;> refine ⟨by decide, by decide, by decide, by decide, ?_⟩ <;> cases r <;> simp [pairAt, pairs]
      obtain ⟨q1, q2, q3, q4, q5⟩ := hp c hb
      unfold wordOf at h
      rw [q1, q2, q3, q5] at h
      simp [q4] at h
  · cases hb : (c == 47 && r.head? == some 42) with
    | false => rfl
    | true => simp at hb; exact absurd hb h2

theorem pair_blank (c : UInt8) : decide ([c, 32] ∈ pairs) = false := by
  simp [pairs]

theorem pairAt_apart {c : UInt8} {x : List UInt8} (hx : Apart32 x) : pairAt c x = false := by
  rcases hx with rfl | ⟨y, rfl⟩
  · rfl
  · exact pair_blank c

theorem letAt_apart {x : List UInt8} (hx : Apart32 x) : letAt x = false := by
  rcases hx with rfl | ⟨y, rfl⟩
  · rfl
  · rfl

theorem head_apart {x : List UInt8} (hx : Apart32 x) : ¬ x.head? = some 42 := by
  rcases hx with rfl | ⟨y, rfl⟩
  · simp
  · simp

theorem pair_not_slash {d : UInt8} : [47, d] ∉ pairs := by simp [pairs]

theorem word_again {c : UInt8} {r : List UInt8} {k : Nat} {t : List UInt8} {v m p : Nat} (h : wordOf c r = .ok (k, t, v, m)) (hk : ¬ k = 3) : Again ⟨k, t, v, p⟩ := by
  unfold wordOf at h
  split at h
  · rename_i hc
    have hld : isLD c = true := by simp [isLD, hc]
    simp only at h
    split at h
    · cases h
    · rename_i hle
      simp only [Except.ok.injEq, Prod.mk.injEq] at h
      obtain ⟨rfl, rfl, rfl, rfl⟩ := h
      have e : (c :: r).takeWhile isLD = c :: r.takeWhile isLD := by simp [hld]
      rw [e] at hle hk ⊢
      refine ⟨by simpa using Nat.le_of_not_lt hle, c, _, rfl, fun x hx => ?_⟩
      have e2 : (c :: (r.takeWhile isLD ++ x)).takeWhile isLD = c :: r.takeWhile isLD := by
        simp only [List.takeWhile_cons, hld, if_true]
        rw [takeWhile_apart (by decide) hx]
      have hw : wordOf c (r.takeWhile isLD ++ x) = .ok (if (c :: r.takeWhile isLD) ∈ keyNames then 4 else 1, c :: r.takeWhile isLD, 0, (c :: r.takeWhile isLD).length) := by
        unfold wordOf
        rw [if_pos hc]
        simp only [e2]
        rw [if_neg hle]
      exact ⟨hw, skip_word hw (fun ⟨h1, _⟩ => by subst h1; simp [isLet] at hc)⟩
  · rename_i hnl
    split at h
    · rename_i hc
      simp only at h
      split at h
      · cases h
      · rename_i hle
        split at h
        · cases h
        · split at h
          · cases h
          · rename_i hv
            simp only [Except.ok.injEq, Prod.mk.injEq] at h
            obtain ⟨rfl, rfl, rfl, rfl⟩ := h
            have e : (c :: r).takeWhile isDig = c :: r.takeWhile isDig := by simp [hc]
            rw [e] at hle hv ⊢
            refine ⟨by simp at hle ⊢; omega, c, _, rfl, fun x hx => ?_⟩
            have e2 : (c :: (r.takeWhile isDig ++ x)).takeWhile isDig = c :: r.takeWhile isDig := by
              simp only [List.takeWhile_cons, hc, if_true]
              rw [takeWhile_apart (by decide) hx]
            have e3 : (c :: (r.takeWhile isDig ++ x)).drop (c :: r.takeWhile isDig).length = x := by simp
            have hw : wordOf c (r.takeWhile isDig ++ x) = .ok (2, c :: r.takeWhile isDig, valD (c :: r.takeWhile isDig), (c :: r.takeWhile isDig).length) := by
              unfold wordOf
              rw [if_neg hnl, if_pos hc]
              simp only [e2, e3]
              rw [if_neg hle, letAt_apart hx, if_neg hv]
              simp
            exact ⟨hw, skip_word hw (fun ⟨h1, _⟩ => by subst h1; simp [isDig] at hc)⟩
    · rename_i hnd
      split at h
      · split at h
        · cases h
        · simp only [Except.ok.injEq, Prod.mk.injEq] at h; omega
      · rename_i hnq
        split at h
        · rename_i hpa
          simp only [Except.ok.injEq, Prod.mk.injEq] at h
          obtain ⟨rfl, rfl, rfl, rfl⟩ := h
          cases r with
          | nil => simp [pairAt] at hpa
          | cons d r' =>
            refine ⟨by simp, c, [d], rfl, fun x hx => ?_⟩
            have hpa2 : pairAt c ([d] ++ x) = true := hpa
            have hw : wordOf c ([d] ++ x) = .ok (4, (c :: d :: r').take 2, 0, ((c :: d :: r').take 2).length) := by
              unfold wordOf
              rw [if_neg hnl, if_neg hnd, if_neg hnq, if_pos hpa2]
              simp
            refine ⟨hw, skip_word hw (fun ⟨h1, _⟩ => ?_)⟩
            subst h1
            simp only [pairAt, decide_eq_true_eq] at hpa
            exact pair_not_slash hpa
        · rename_i hnp
          split at h
          · rename_i hs
            simp only [Except.ok.injEq, Prod.mk.injEq] at h
            obtain ⟨rfl, rfl, rfl, rfl⟩ := h
            refine ⟨by simp, c, [], rfl, fun x hx => ?_⟩
            have hw : wordOf c ([] ++ x) = .ok (4, [c], 0, [c].length) := by
              unfold wordOf
              rw [if_neg hnl, if_neg hnd, if_neg hnq, List.nil_append, pairAt_apart hx, if_pos hs]
              simp
            exact ⟨hw, skip_word hw (fun ⟨_, h2⟩ => head_apart hx h2)⟩
          · cases h

theorem toksF_again : ∀ (f p : Nat) (l : List UInt8) (ts : List Tok), toksF f p l = .ok ts → ∀ t ∈ ts, ¬ t.kind = 3 → Again t
  | 0, p, l, ts, h, t, ht, hk => by simp [toksF] at h; subst h; simp at ht
  | f + 1, p, l, ts, h, t, ht, hk => by
    simp only [toksF] at h
    cases hs : skip l with
    | none => rw [hs] at h; simp at h
    | some n =>
      rw [hs] at h
      simp only at h
      cases hd : l.drop n with
      | nil => rw [hd] at h; simp at h; subst h; simp at ht
      | cons c r =>
        rw [hd] at h
        simp only at h
        cases hw : wordOf c r with
        | error x => obtain ⟨e, k⟩ := x; rw [hw] at h; simp at h
        | ok x =>
          obtain ⟨kind, tx, v, m⟩ := x
          rw [hw] at h
          simp only at h
          cases hr : toksF f (p + n + m) ((c :: r).drop m) with
          | error x => rw [hr] at h; simp at h
          | ok us =>
            rw [hr] at h
            simp only [Except.ok.injEq] at h
            subst h
            rcases List.mem_cons.mp ht with rfl | hm
            · exact word_again hw hk
            · exact toksF_again f _ _ us hr t hm hk

theorem tokens_again {l : List UInt8} {ts : List Tok} (h : tokens l = .ok ts) : ∀ t ∈ ts, ¬ t.kind = 3 → Again t := by
  unfold tokens at h
  split at h
  · cases h
  · exact toksF_again _ _ _ _ h

/-- Each word with a blank ahead. -/
def spr (ts : List Tok) : List UInt8 := ts.flatMap (fun t => 32 :: t.text)
/-- The words with one blank between each two. -/
def spread (ts : List Tok) : List UInt8 := (spr ts).drop 1

theorem spr_apart : ∀ (ts : List Tok), Apart32 (spr ts)
  | [] => Or.inl rfl
  | t :: ts => Or.inr ⟨t.text ++ spr ts, by simp [spr]⟩

theorem toksAt_spr : ∀ (ts : List Tok), (∀ t ∈ ts, Again t) → ∀ p, ∃ us, toksAt p (spr ts) = .ok us ∧ us.map keyT = ts.map keyT
  | [], _, p => ⟨[], toksAt_end skip_nil rfl, rfl⟩
  | t :: ts, h, p => by
    obtain ⟨_, c, r, e, hx⟩ := h t (by simp)
    obtain ⟨hw, hs⟩ := hx (spr ts) (spr_apart ts)
    have es : spr (t :: ts) = 32 :: (c :: (r ++ spr ts)) := by simp [spr, e]
    have hsk : skip (32 :: (c :: (r ++ spr ts))) = some 1 := by rw [skip_blank (by decide), hs]; rfl
    obtain ⟨us, hu, hk⟩ := toksAt_spr ts (fun u hu => h u (by simp [hu])) (p + 1 + t.text.length)
    have ed : (c :: (r ++ spr ts)).drop t.text.length = spr ts := by rw [e]; simp
    refine ⟨⟨t.kind, t.text, t.n, p + 1⟩ :: us, ?_, by simp [keyT] at hk ⊢; exact hk⟩
    rw [es, toksAt_word hsk rfl hw, ed, hu]

theorem toksAt_spread : ∀ (ts : List Tok), (∀ t ∈ ts, Again t) → ∀ p, ∃ us, toksAt p (spread ts) = .ok us ∧ us.map keyT = ts.map keyT
  | [], _, p => ⟨[], toksAt_end skip_nil rfl, rfl⟩
  | t :: ts, h, p => by
    obtain ⟨_, c, r, e, hx⟩ := h t (by simp)
    obtain ⟨hw, hs⟩ := hx (spr ts) (spr_apart ts)
    have es : spread (t :: ts) = c :: (r ++ spr ts) := by simp [spread, spr, e]
    obtain ⟨us, hu, hk⟩ := toksAt_spr ts (fun u hu => h u (by simp [hu])) (p + 0 + t.text.length)
    have ed : (c :: (r ++ spr ts)).drop t.text.length = spr ts := by rw [e]; simp
    refine ⟨⟨t.kind, t.text, t.n, p + 0⟩ :: us, ?_, by simp [keyT] at hk ⊢; exact hk⟩
    rw [es, toksAt_word hs rfl hw, ed, hu]

/-- P2.3: words, one blank between each two, are the same words again. -/
theorem tokens_spread {ts : List Tok} (h : ∀ t ∈ ts, Again t) (hl : (spread ts).length ≤ 65536) : ∃ us : List Tok, tokens (spread ts) = .ok us ∧ us.length = ts.length ∧
    ∀ i (h1 : i < us.length) (h2 : i < ts.length), us[i].kind = ts[i].kind ∧ us[i].text = ts[i].text ∧ us[i].n = ts[i].n := by
  obtain ⟨us, hu, hk⟩ := toksAt_spread ts h 0
  refine ⟨us, by rw [tokens_short (by omega)]; exact hu, by have := congrArg List.length hk; simpa using this, fun i h1 h2 => ?_⟩
  have h3 : (us.map keyT)[i]'(by simpa using h1) = (ts.map keyT)[i]'(by simpa using h2) := by simp only [hk]
  simp only [List.getElem_map, keyT, Prod.mk.injEq] at h3
  exact h3

theorem spread_first (t : Tok) : spread [t] = t.text := by simp [spread, spr]
theorem spread_next {ts : List Tok} {t : Tok} (h : 0 < ts.length) : spread (ts ++ [t]) = spread ts ++ 32 :: t.text := by
  cases ts with
  | nil => simp at h
  | cons u us => simp [spread, spr]

end Go.Proofs.Ytmaaiahapmplgaa
