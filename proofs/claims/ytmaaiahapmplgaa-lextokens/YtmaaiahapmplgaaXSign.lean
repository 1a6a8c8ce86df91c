/-
  What the reference's word does: signs, quoted texts.
-/
import Derived.Test.YtmaaiahapmplgaaXWord
import Derived.Test.YtmaaiahapmplgaaXQuoted
namespace Go.Proofs.Ytmaaiahapmplgaa
open Go.RowKit

set_option maxHeartbeats 8000000 in
set_option maxRecDepth 100000 in
theorem word_sign (s : ByteArray) (p : Nat) (hp : p < s.size) (hs : s.size ≤ 65536) (hn : isLet s[p] = false) (hl : isDig s[p] = false) (hq : (s[p] == 34) = false) (w : World) :
    Calls Try.prog 20 #[.string s, .int .i64 p] w fun e w' => e = .returned (rwordV p (wordOf s[p] ((bytesOf s).drop (p + 1)))) ∧ Kept [] w w' := by
  obtain ⟨V, hV⟩ : ∃ V, rwordV p (wordOf s[p] ((bytesOf s).drop (p + 1))) = V := ⟨_, rfl⟩
  rw [hV]
  rw [wordOf_sign hn hl hq] at hV
  have HL : Hid (isLet s[p] = false) := hn
  have HD : Hid (isDig s[p] = false) := hl
  have hx : (((s[p].toNat : Nat) : Int) == 34) = false := by rw [u8_beq] at hq; exact hq
  have hb1 := bytes_one s p hp
  have ht1 : s.extract p (p + 1) = strL [s[p]] := by rw [← strL_bytesOf (s.extract p (p + 1)), hb1]
  have H1 : Hid (s.extract p (p + 1) = strL [s[p]]) := ht1
  obtain ⟨Z, hZ⟩ : ∃ Z : Int, (s.size : Int) = Z := ⟨_, rfl⟩
  have hZ0 : Z ≤ 65536 := by omega
  have hpZ : (p : Int) < Z := by omega
  have h0 : (0 : Int) ≤ (p : Int) := by omega
  have hRT := rtwo_new w
  have hRK := rkept_two w []
  clear hn hl hq hb1 ht1
  by_cases hnext : p + 1 < s.size
  · have hnext' : (p : Int) + 1 < Z := by omega
    have hnext2 : (p : Int) + 2 ≤ Z := by omega
    have hb2 := bytes_two s p hnext
    have hpa : pairAt s[p] ((bytesOf s).drop (p + 1)) = decide ([s[p], s[p + 1]] ∈ pairs) := by rw [drop_at s (p + 1) hnext]; rfl
    have ht2 : s.extract p (p + 2) = strL ((s[p] :: (bytesOf s).drop (p + 1)).take 2) := by rw [← strL_bytesOf (s.extract p (p + 2)), hb2, drop_at s (p + 1) hnext]; rfl
    have HS2 : Hid (∀ w, Calls Try.prog 25 #[.string (s.extract p (p + 2))] w fun e w' => e = .returned (.bool (decide ([s[p], s[p + 1]] ∈ pairs))) ∧ w' = w) := fun w => by
      have := two_any (s.extract p (p + 2)) w
      rw [toList_bytes, hb2] at this
      exact this
    rw [hpa] at hV
    have H2 : Hid (s.extract p (p + 2) = strL ((s[p] :: (bytesOf s).drop (p + 1)).take 2)) := ht2
    have HV : Hid _ := hV
    clear hV hb2 hpa ht2 hs
    by_cases hpair : [s[p], s[p + 1]] ∈ pairs
    · rw [decide_eq_true hpair] at HS2
      go_enter Try.func20, Try.ntmps20
      go_upto_region 1 with fail
      obtain ⟨W0, hW0⟩ : ∃ W0, (w.alloc (.cells #[.int .i64 0, .string ⟨#[]⟩, .int .i64 0, .int .i64 0] 34)).alloc (.cells #[.int .i64 0, .int .i64 0] 26) = W0 := ⟨_, rfl⟩
      rw [hW0] at hRT hRK ⊢
      have HRK : Hid (Kept [] w W0) := hRK
      clear hW0 hRK
      obtain ⟨⟨c0, c1, c2, c3, c4, c5⟩, f0, f1, f2, f3, f4, f5⟩ := hRT.facts
      go_wp2_with (first
        | (go_at_call 36; refine (Letter_any _ _).mono ?_; rintro e w1 ⟨rfl, hw⟩; replace hw := hw.symm; subst hw; rw [HL.out])
        | (go_at_call 37; refine (digit_any _ _).mono ?_; rintro e w1 ⟨rfl, hw⟩; replace hw := hw.symm; subst hw; rw [HD.out])
        | (go_at_call 25; refine (HS2.out _).mono ?_; rintro e w1 ⟨rfl, hw⟩; replace hw := hw.symm; subst hw))
      exact rleave_word Try.results20 rfl rfl rfl hRT.1 hRT.2 HRK.out (Nat.le_refl _) (by rw [← HV.out, if_pos (decide_eq_true hpair)]; unfold rwordV; simp only [← H2.out]; rfl)
    · rw [decide_eq_false hpair] at HS2
      by_cases hsign : [s[p]] ∈ signs
      · have HS1 : Hid (∀ w, Calls Try.prog 26 #[.int .u8 (s[p].toNat : Int)] w fun e w' => e = .returned (.bool true) ∧ w' = w) := fun w => by have := one_any s[p] w; unfold isSg at this; rw [decide_eq_true hsign] at this; exact this
        go_enter Try.func20, Try.ntmps20
        go_upto_region 1 with fail
        obtain ⟨W0, hW0⟩ : ∃ W0, (w.alloc (.cells #[.int .i64 0, .string ⟨#[]⟩, .int .i64 0, .int .i64 0] 34)).alloc (.cells #[.int .i64 0, .int .i64 0] 26) = W0 := ⟨_, rfl⟩
        rw [hW0] at hRT hRK ⊢
        have HRK : Hid (Kept [] w W0) := hRK
        clear hW0 hRK
        obtain ⟨⟨c0, c1, c2, c3, c4, c5⟩, f0, f1, f2, f3, f4, f5⟩ := hRT.facts
        go_wp2_with (first
          | (go_at_call 36; refine (Letter_any _ _).mono ?_; rintro e w1 ⟨rfl, hw⟩; replace hw := hw.symm; subst hw; rw [HL.out])
          | (go_at_call 37; refine (digit_any _ _).mono ?_; rintro e w1 ⟨rfl, hw⟩; replace hw := hw.symm; subst hw; rw [HD.out])
          | (go_at_call 25; refine (HS2.out _).mono ?_; rintro e w1 ⟨rfl, hw⟩; replace hw := hw.symm; subst hw)
          | (go_at_call 26; refine (HS1.out _).mono ?_; rintro e w1 ⟨rfl, hw⟩; replace hw := hw.symm; subst hw))
        exact rleave_word Try.results20 rfl rfl rfl hRT.1 hRT.2 HRK.out (Nat.le_refl _) (by rw [← HV.out, if_neg (by simpa using hpair), if_pos hsign]; unfold rwordV; simp only [← H1.out]; rfl)
      · have HS1 : Hid (∀ w, Calls Try.prog 26 #[.int .u8 (s[p].toNat : Int)] w fun e w' => e = .returned (.bool false) ∧ w' = w) := fun w => by have := one_any s[p] w; unfold isSg at this; rw [decide_eq_false hsign] at this; exact this
        go_enter Try.func20, Try.ntmps20
        go_upto_region 1 with fail
        obtain ⟨W0, hW0⟩ : ∃ W0, (w.alloc (.cells #[.int .i64 0, .string ⟨#[]⟩, .int .i64 0, .int .i64 0] 34)).alloc (.cells #[.int .i64 0, .int .i64 0] 26) = W0 := ⟨_, rfl⟩
        rw [hW0] at hRT hRK ⊢
        have HRK : Hid (Kept [] w W0) := hRK
        clear hW0 hRK
        go_wp2_with (first
          | (go_at_call 36; refine (Letter_any _ _).mono ?_; rintro e w1 ⟨rfl, hw⟩; replace hw := hw.symm; subst hw; rw [HL.out])
          | (go_at_call 37; refine (digit_any _ _).mono ?_; rintro e w1 ⟨rfl, hw⟩; replace hw := hw.symm; subst hw; rw [HD.out])
          | (go_at_call 25; refine (HS2.out _).mono ?_; rintro e w1 ⟨rfl, hw⟩; replace hw := hw.symm; subst hw)
          | (go_at_call 26; refine (HS1.out _).mono ?_; rintro e w1 ⟨rfl, hw⟩; replace hw := hw.symm; subst hw)
          | (go_at_call 18; refine (bad_any _ _ _).mono ?_; rintro e w1 ⟨rfl, hkm⟩; have htw1 := hRT.kept hkm; obtain ⟨⟨c0, c1, c2, c3, c4, c5⟩, f0, f1, f2, f3, f4, f5⟩ := htw1.facts))
        exact rleave_word Try.results20 rfl rfl rfl htw1.1 htw1.2 (HRK.out.trans hkm (by simp)) (Nat.le_refl _) (by rw [← HV.out, if_neg (by simpa using hpair), if_neg hsign]; rfl)
  · have hnext' : ¬ (p : Int) + 1 < Z := by omega
    have hpa : pairAt s[p] ((bytesOf s).drop (p + 1)) = false := by rw [List.drop_eq_nil_of_le (by rw [bytesOf_length]; omega)]; rfl
    rw [hpa] at hV
    have HV : Hid _ := hV
    clear hV hpa hs
    by_cases hsign : [s[p]] ∈ signs
    · have HS1 : Hid (∀ w, Calls Try.prog 26 #[.int .u8 (s[p].toNat : Int)] w fun e w' => e = .returned (.bool true) ∧ w' = w) := fun w => by have := one_any s[p] w; unfold isSg at this; rw [decide_eq_true hsign] at this; exact this
      go_enter Try.func20, Try.ntmps20
      go_upto_region 1 with fail
      obtain ⟨W0, hW0⟩ : ∃ W0, (w.alloc (.cells #[.int .i64 0, .string ⟨#[]⟩, .int .i64 0, .int .i64 0] 34)).alloc (.cells #[.int .i64 0, .int .i64 0] 26) = W0 := ⟨_, rfl⟩
      rw [hW0] at hRT hRK ⊢
      have HRK : Hid (Kept [] w W0) := hRK
      clear hW0 hRK
      obtain ⟨⟨c0, c1, c2, c3, c4, c5⟩, f0, f1, f2, f3, f4, f5⟩ := hRT.facts
      go_wp2_with (first
        | (go_at_call 36; refine (Letter_any _ _).mono ?_; rintro e w1 ⟨rfl, hw⟩; replace hw := hw.symm; subst hw; rw [HL.out])
        | (go_at_call 37; refine (digit_any _ _).mono ?_; rintro e w1 ⟨rfl, hw⟩; replace hw := hw.symm; subst hw; rw [HD.out])
        | (go_at_call 26; refine (HS1.out _).mono ?_; rintro e w1 ⟨rfl, hw⟩; replace hw := hw.symm; subst hw))
      exact rleave_word Try.results20 rfl rfl rfl hRT.1 hRT.2 HRK.out (Nat.le_refl _) (by rw [← HV.out, if_neg (by simp), if_pos hsign]; unfold rwordV; simp only [← H1.out]; rfl)
    · have HS1 : Hid (∀ w, Calls Try.prog 26 #[.int .u8 (s[p].toNat : Int)] w fun e w' => e = .returned (.bool false) ∧ w' = w) := fun w => by have := one_any s[p] w; unfold isSg at this; rw [decide_eq_false hsign] at this; exact this
      go_enter Try.func20, Try.ntmps20
      go_upto_region 1 with fail
      obtain ⟨W0, hW0⟩ : ∃ W0, (w.alloc (.cells #[.int .i64 0, .string ⟨#[]⟩, .int .i64 0, .int .i64 0] 34)).alloc (.cells #[.int .i64 0, .int .i64 0] 26) = W0 := ⟨_, rfl⟩
      rw [hW0] at hRT hRK ⊢
      have HRK : Hid (Kept [] w W0) := hRK
      clear hW0 hRK
      go_wp2_with (first
        | (go_at_call 36; refine (Letter_any _ _).mono ?_; rintro e w1 ⟨rfl, hw⟩; replace hw := hw.symm; subst hw; rw [HL.out])
        | (go_at_call 37; refine (digit_any _ _).mono ?_; rintro e w1 ⟨rfl, hw⟩; replace hw := hw.symm; subst hw; rw [HD.out])
        | (go_at_call 26; refine (HS1.out _).mono ?_; rintro e w1 ⟨rfl, hw⟩; replace hw := hw.symm; subst hw)
        | (go_at_call 18; refine (bad_any _ _ _).mono ?_; rintro e w1 ⟨rfl, hkm⟩; have htw1 := hRT.kept hkm; obtain ⟨⟨c0, c1, c2, c3, c4, c5⟩, f0, f1, f2, f3, f4, f5⟩ := htw1.facts))
      exact rleave_word Try.results20 rfl rfl rfl htw1.1 htw1.2 (HRK.out.trans hkm (by simp)) (Nat.le_refl _) (by rw [← HV.out, if_neg (by simp), if_neg hsign]; rfl)

theorem rwordV_form (p : Nat) (X : Except Mis (Nat × List UInt8 × Nat × Nat)) : ∃ (k : Int) (t : ByteArray) (n q m e r : Int),
    rwordV p X = .tuple #[.agg #[.int .i64 k, .string t, .int .i64 n, .int .i64 q], .int .i64 m, .agg #[.int .i64 e, .int .i64 r]] := by
  cases X with
  | error x => obtain ⟨e, k⟩ := x; exact ⟨_, _, _, _, _, _, _, rfl⟩
  | ok x => obtain ⟨a, b, c, d⟩ := x; exact ⟨_, _, _, _, _, _, _, rfl⟩

set_option maxHeartbeats 8000000 in
set_option maxRecDepth 100000 in
theorem word_quoted (s : ByteArray) (p : Nat) (hp : p < s.size) (hs : s.size ≤ 65536) (hq : s[p] = 34) (w : World) :
    Calls Try.prog 20 #[.string s, .int .i64 p] w fun e w' => e = .returned (rwordV p (wordOf s[p] ((bytesOf s).drop (p + 1)))) ∧ Kept [] w w' := by
  obtain ⟨k, t, n, q, m, e0, r, hV⟩ := rwordV_form p (wordOf s[p] ((bytesOf s).drop (p + 1)))
  have HW : Hid (∀ w, _) := fun w => quoted_any s p hp hs hq w
  rw [hV] at HW ⊢
  have hx : s[p].toNat = 34 := by rw [hq]; rfl
  have HLa : Hid (∀ w, Calls Try.prog 36 #[.int .u8 34] w fun e w' => e = .returned (.bool false) ∧ w' = w) := fun w => Letter_any 34 w
  have HDa : Hid (∀ w, Calls Try.prog 37 #[.int .u8 34] w fun e w' => e = .returned (.bool false) ∧ w' = w) := fun w => digit_any 34 w
  obtain ⟨Z, hZ⟩ : ∃ Z : Int, (s.size : Int) = Z := ⟨_, rfl⟩
  have hZ0 : Z ≤ 65536 := by omega
  have hpZ : (p : Int) < Z := by omega
  have h0 : (0 : Int) ≤ (p : Int) := by omega
  have hRT := rtwo_new w
  have hRK := rkept_two w []
  clear hs hV hq
  go_enter Try.func20, Try.ntmps20
  go_upto_region 1 with fail
  obtain ⟨W0, hW0⟩ : ∃ W0, (w.alloc (.cells #[.int .i64 0, .string ⟨#[]⟩, .int .i64 0, .int .i64 0] 34)).alloc (.cells #[.int .i64 0, .int .i64 0] 26) = W0 := ⟨_, rfl⟩
  rw [hW0] at hRT hRK ⊢
  have HRK : Hid (Kept [] w W0) := hRK
  clear hW0 hRK
  go_wp2_with (first
    | (go_at_call 36; refine (HLa.out _).mono ?_; rintro e w1 ⟨rfl, hw⟩; replace hw := hw.symm; subst hw)
    | (go_at_call 37; refine (HDa.out _).mono ?_; rintro e w1 ⟨rfl, hw⟩; replace hw := hw.symm; subst hw)
    | (go_at_call 38; refine (HW.out _).mono ?_; rintro e w1 ⟨rfl, hkm⟩; have htw1 := hRT.kept hkm; obtain ⟨⟨c0, c1, c2, c3, c4, c5⟩, f0, f1, f2, f3, f4, f5⟩ := htw1.facts))
  exact rleave_word Try.results20 rfl rfl rfl htw1.1 htw1.2 (HRK.out.trans hkm (by simp)) (Nat.le_refl _) rfl

end Go.Proofs.Ytmaaiahapmplgaa
