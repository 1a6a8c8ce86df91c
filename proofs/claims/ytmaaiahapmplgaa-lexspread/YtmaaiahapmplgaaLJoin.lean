/-
  Two texts, one behind the other: their words.
-/
import Derived.Test.YtmaaiahapmplgaaLShift
import Derived.Test.YtmaaiahapmplgaaLReadWord
namespace Go.Proofs.Ytmaaiahapmplgaa
open Go.RowKit

theorem takeWhile_behind {pred : UInt8 → Bool} {c : UInt8} (h : pred c = false) (b : List UInt8) : ∀ (l : List UInt8), (l ++ c :: b).takeWhile pred = l.takeWhile pred
  | [] => by simp [h]
  | d :: r => by
    by_cases hd : pred d = true
    · simp [hd, takeWhile_behind h b r]
    · simp [hd]

theorem drop_behind {l x : List UInt8} {n : Nat} (h : n ≤ l.length) : (l ++ x).drop n = l.drop n ++ x := by
  rw [List.drop_append]
  simp [Nat.sub_eq_zero_of_le h]

theorem quo_behind (x : List UInt8) : ∀ (l : List UInt8) (bs : List UInt8) (n : Nat), quo l = .ok (bs, n) → quo (l ++ x) = .ok (bs, n)
  | [], bs, n, h => by simp [quo] at h
  | c :: r, bs, n, h => by
    rw [List.cons_append]
    rw [quo.eq_def] at h ⊢
    simp only at h ⊢
    split at h
    · rename_i hc; rw [if_pos hc]; exact h
    · rename_i hc
      rw [if_neg hc]
      split at h
      · cases h
      · rename_i hb
        rw [if_neg hb]
        split at h
        · rename_i h92
          rw [if_pos h92]
          cases r with
          | nil => simp at h
          | cons d r' =>
            simp only [List.cons_append] at h ⊢
            cases hu : unesc d with
            | none => simp only [hu] at h; cases h
            | some b =>
              simp only [hu] at h ⊢
              cases hq : quo r' with
              | error e => rw [hq] at h; simp at h
              | ok y =>
                obtain ⟨bs', n'⟩ := y
                rw [hq] at h
                rw [quo_behind x r' bs' n' hq]
                exact h
        · rename_i h92
          rw [if_neg h92]
          cases hq : quo r with
          | error e => rw [hq] at h; simp at h
          | ok y =>
            obtain ⟨bs', n'⟩ := y
            rw [hq] at h
            rw [quo_behind x r bs' n' hq]
            exact h

theorem pair_end (c : UInt8) : decide ([c, 10] ∈ pairs) = false := by
  simp [pairs]

/-- A word stays the word that it is where a line's end stands behind the text. -/
theorem wordOf_behind {c : UInt8} {r : List UInt8} {k : Nat} {t : List UInt8} {v m : Nat} (b : List UInt8) (h : wordOf c r = .ok (k, t, v, m)) : wordOf c (r ++ 10 :: b) = .ok (k, t, v, m) := by
  have hn1 : isLD 10 = false := by decide
  have hn2 : isDig 10 = false := by decide
  have e1 : (c :: (r ++ 10 :: b)).takeWhile isLD = (c :: r).takeWhile isLD := takeWhile_behind hn1 b (c :: r)
  have e2 : (c :: (r ++ 10 :: b)).takeWhile isDig = (c :: r).takeWhile isDig := takeWhile_behind hn2 b (c :: r)
  have e3 : letAt ((c :: (r ++ 10 :: b)).drop ((c :: r).takeWhile isDig).length) = letAt ((c :: r).drop ((c :: r).takeWhile isDig).length) := by
    rw [← List.cons_append, drop_behind (List.takeWhile_sublist _).length_le]
    cases (c :: r).drop ((c :: r).takeWhile isDig).length with
    | nil => rfl
    | cons d x => rfl
  unfold wordOf at h ⊢
  simp only [e1, e2, e3] at h ⊢
  split at h
  · rename_i hl; rw [if_pos hl]; exact h
  · rename_i hl
    rw [if_neg hl]
    split at h
    · rename_i hd; rw [if_pos hd]; exact h
    · rename_i hd
      rw [if_neg hd]
      split at h
      · rename_i hq
        rw [if_pos hq]
        cases hqq : quo r with
        | error e => rw [hqq] at h; simp at h
        | ok y =>
          obtain ⟨bs, n⟩ := y
          rw [hqq] at h
          rw [quo_behind _ r bs n hqq]
          exact h
      · rename_i hq
        rw [if_neg hq]
        have ep : pairAt c (r ++ 10 :: b) = pairAt c r := by
          cases r with
          | nil => exact pair_end c
          | cons d x => rfl
        rw [ep]
        cases r with
        | nil => simpa [pairAt] using h
        | cons d x => simpa using h

theorem remEnd_behind (x : List UInt8) : ∀ {l : List UInt8} {k : Nat}, remEnd l = some k → remEnd (l ++ x) = some k
  | [], _, h => by simp [remEnd] at h
  | c :: r, k, h => by
    rw [List.cons_append]
    unfold remEnd at h ⊢
    by_cases hc : (c == 42 && r.head? == some 47) = true
    · rw [if_pos hc] at h
      have : (c == 42 && (r ++ x).head? == some 47) = true := by
        cases r with
        | nil => simp at hc
        | cons d y => simpa using hc
      rw [if_pos this]; exact h
    · rw [if_neg hc] at h
      cases hr : remEnd r with
      | none => rw [hr] at h; simp at h
      | some j =>
        rw [hr] at h
        have ih := remEnd_behind x hr
        have hh : ¬ (c == 42 && (r ++ x).head? == some 47) = true := by
          cases r with
          | nil => simp [remEnd] at hr
          | cons d y => simpa using hc
        rw [if_neg hh, ih]
        exact h

/-- Blanks ahead, where a line's end and more stand behind the text. -/
theorem skipF_behind (b : List UInt8) : ∀ (f : Nat) (l : List UInt8) (n : Nat), l.length ≤ f → skipF f l = some n → ∀ g, (l ++ 10 :: b).length ≤ g → skipF g (l ++ 10 :: b) = if n = l.length then (skip b).map (· + (n + 1)) else some n
  | f, [], n, hf, h, g, hg => by
    have hn : n = 0 := by cases f <;> simp [skipF] at h <;> omega
    subst hn
    rw [List.nil_append, skipF_fuel g (10 :: b).length (10 :: b) (by simpa using hg) (Nat.le_refl _)]
    show skip (10 :: b) = _
    rw [skip_blank (by decide)]
    simp
  | 0, c :: r, n, hf, h, g, hg => by simp at hf
  | f + 1, c :: r, n, hf, h, 0, hg => by simp at hg
  | f + 1, c :: r, n, hf, h, g + 1, hg => by
    simp only [List.length_cons] at hf
    simp only [List.cons_append, List.length_cons] at hg
    rw [List.cons_append]
    simp only [skipF] at h ⊢
    split at h
    · rename_i hb
      rw [if_pos hb]
      cases hr : skipF f r with
      | none => rw [hr] at h; simp at h
      | some k =>
        rw [hr] at h
        simp only [Option.map_some, Option.some.injEq] at h
        subst h
        rw [skipF_behind b f r k (by omega) hr g (by omega)]
        by_cases hk : k = r.length
        · rw [if_pos hk, if_pos (by simp [hk])]
          cases skip b with
          | none => rfl
          | some z => simp; omega
        · rw [if_neg hk, if_neg (by simp [hk])]
          rfl
    · rename_i hb
      rw [if_neg hb]
      by_cases hc : (c == 47 && r.head? == some 42) = true
      · rw [if_pos hc] at h
        obtain ⟨d, r', rfl⟩ : ∃ d r', r = d :: r' := by
          cases r with
          | nil => simp at hc
          | cons d r' => exact ⟨d, r', rfl⟩
        have hc' : (c == 47 && ((d :: r') ++ 10 :: b).head? == some 42) = true := by simpa using hc
        rw [if_pos hc']
        simp only [List.cons_append, List.drop_succ_cons, List.drop_zero] at h ⊢
        cases hk : remEnd r' with
        | none => rw [hk] at h; simp at h
        | some k =>
          rw [hk] at h
          rw [remEnd_behind _ hk]
          simp only at h ⊢
          have hk2 := remEnd_lt hk
          rw [drop_behind hk2]
          simp only [List.length_cons] at hf hg
          cases hr : skipF f (r'.drop (k + 2)) with
          | none => rw [hr] at h; simp at h
          | some z =>
            rw [hr] at h
            simp only [Option.map_some, Option.some.injEq] at h
            subst h
            rw [skipF_behind b f (r'.drop (k + 2)) z (by simp; omega) hr g (by simp at hg ⊢; omega)]
            have hlz : (r'.drop (k + 2)).length = r'.length - (k + 2) := by simp
            by_cases hz : z = (r'.drop (k + 2)).length
            · rw [if_pos hz, if_pos (by rw [hlz] at hz; simp; omega)]
              cases skip b with
              | none => rfl
              | some y => simp; omega
            · rw [if_neg hz, if_neg (by rw [hlz] at hz; simp; omega)]
              rfl
      · rw [if_neg hc] at h
        have hc' : ¬ (c == 47 && (r ++ 10 :: b).head? == some 42) = true := by
          cases r with
          | nil => simp
          | cons d r' => simpa using hc
        rw [if_neg hc']
        simp only [Option.some.injEq] at h
        subst h
        rw [if_neg (by simp)]

theorem skip_behind {l : List UInt8} {n : Nat} (b : List UInt8) (h : skip l = some n) : skip (l ++ 10 :: b) = if n = l.length then (skip b).map (· + (n + 1)) else some n :=
  skipF_behind b _ l n (Nat.le_refl _) h _ (Nat.le_refl _)

/-- P2.3: two texts, a line's end between them, have the words of both. -/
theorem toksF_join (b : List UInt8) : ∀ (f p : Nat) (l : List UInt8) (ts : List Tok), l.length < f → toksF f p l = .ok ts → toksAt p (l ++ 10 :: b) = tsh ts (toksAt (p + l.length + 1) b)
  | 0, p, l, ts, hf, h => by omega
  | f + 1, p, l, ts, hf, h => by
    simp only [toksF] at h
    cases hs : skip l with
    | none => rw [hs] at h; simp at h
    | some n =>
      rw [hs] at h
      have hn := skip_le hs
      have hsk := skip_behind b hs
      simp only at h
      cases hd : l.drop n with
      | nil =>
        rw [hd] at h
        simp only [Except.ok.injEq] at h
        subst h
        have hnl : n = l.length := by
          have : (l.drop n).length = 0 := by rw [hd]; rfl
          rw [List.length_drop] at this
          omega
        subst hnl
        rw [if_pos rfl] at hsk
        have e : l ++ 10 :: b = (l ++ [10]) ++ b := by simp
        rw [tsh_nil, e, toksAt_pre (d := l.length + 1) p (by rw [← e]; exact hsk) (by simp), Nat.add_assoc]
      | cons c r =>
        rw [hd] at h
        simp only at h
        have hnl : ¬ n = l.length := fun e => by
          have : (l.drop n).length = 0 := by rw [List.length_drop]; omega
          rw [hd] at this
          simp at this
        rw [if_neg hnl] at hsk
        have hdr : (l ++ 10 :: b).drop n = c :: (r ++ 10 :: b) := by rw [drop_behind hn, hd]; rfl
        have hll : (c :: r).length = l.length - n := by rw [← hd]; simp
        simp only [List.length_cons] at hll
        cases hw : wordOf c r with
        | error x => obtain ⟨e, k⟩ := x; rw [hw] at h; simp at h
        | ok x =>
          obtain ⟨kind, t, v, m⟩ := x
          rw [hw] at h
          simp only at h
          have hm := wordOf_le hw
          have hm1 := wordOf_pos hw
          rw [toksAt_word hsk hdr (wordOf_behind b hw)]
          cases ht : toksF f (p + n + m) ((c :: r).drop m) with
          | error x => rw [ht] at h; simp at h
          | ok us =>
            rw [ht] at h
            simp only [Except.ok.injEq] at h
            subst h
            have hlen : ((c :: r).drop m).length = r.length + 1 - m := by simp
            have ih := toksF_join b f (p + n + m) ((c :: r).drop m) us (by omega) ht
            have e2 : (c :: (r ++ 10 :: b)).drop m = (c :: r).drop m ++ 10 :: b := by rw [← List.cons_append, drop_behind (by simp; omega)]
            rw [e2, ih, hlen, show p + n + m + (r.length + 1 - m) + 1 = p + l.length + 1 by omega]
            cases toksAt (p + l.length + 1) b with
            | error x => rfl
            | ok ws => rfl

theorem tokens_join {a b : List UInt8} {xs ys : List Tok} (ha : tokens a = .ok xs) (hb : tokens b = .ok ys) (hl : a.length + b.length + 1 ≤ 65536) : tokens (a ++ 10 :: b) = .ok (xs ++ ys.map (shT (a.length + 1))) := by
  rw [tokens_short (by simp; omega)]
  rw [tokens_short (by omega)] at ha hb
  rw [toksF_join b (a.length + 1) 0 a xs (by omega) ha, show 0 + a.length + 1 = 0 + (a.length + 1) by omega, toksAt_shift, hb]
  rfl

end Go.Proofs.Ytmaaiahapmplgaa
