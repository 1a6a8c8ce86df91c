/-
  What readWord does.
-/
import Derived.Test.YtmaaiahapmplgaaLNumber
import Derived.Test.YtmaaiahapmplgaaLSign
import Derived.Test.YtmaaiahapmplgaaLReadQ
namespace Go.Proofs.Ytmaaiahapmplgaa
open Go.RowKit

theorem wordV_form (p : Nat) (X : Except Mis (Nat × List UInt8 × Nat × Nat)) : ∃ (k : Int) (t : ByteArray) (n q m e r : Int),
    wordV p X = .tuple #[.agg #[.int .i64 k, .string t, .int .i64 n, .int .i64 q], .int .i64 m, .agg #[.int .i64 e, .int .i64 r]] := by
  cases X with
  | error x => obtain ⟨e, k⟩ := x; exact ⟨_, _, _, _, _, _, _, rfl⟩
  | ok x => obtain ⟨a, b, c, d⟩ := x; exact ⟨_, _, _, _, _, _, _, rfl⟩

set_option maxHeartbeats 4000000 in
set_option maxRecDepth 100000 in
theorem readWord_any (s : ByteArray) (p : Nat) (hp : p < s.size) (hs : s.size ≤ 65536) (w : World) :
    Calls Try.prog 17 #[.string s, .int .i64 p] w fun e w' => e = .returned (wordV p (wordOf s[p] ((bytesOf s).drop (p + 1)))) ∧ Kept [] w w' := by
  obtain ⟨k, t, n, q, m, e0, r, hV⟩ := wordV_form p (wordOf s[p] ((bytesOf s).drop (p + 1)))
  have hlt : (p : Int) < (s.size : Int) := by omega
  have h0 : (0 : Int) ≤ (p : Int) := by omega
  cases hl : isLet s[p] with
  | true =>
    have HW : Hid (∀ w, _) := fun w => readName_any s p hp hs hl w
    rw [hV] at HW ⊢
    have HL : Hid _ := hl
    clear hl hs hV
    go_enter Try.func17, Try.ntmps17
    go_wp2_with (first
      | (go_at_call 30; refine (isLetter_any _ _).mono ?_; rintro e w1 ⟨rfl, hw⟩; replace hw := hw.symm; subst hw; rw [HL.out])
      | (go_at_call 31; refine (HW.out _).mono ?_; rintro e w1 ⟨rfl, hkm⟩; have htw := (two_new w).kept hkm; obtain ⟨⟨c0, c1, c2, c3, c4, c5⟩, f0, f1, f2, f3, f4, f5⟩ := htw.facts))
    exact leave_word Try.results17 rfl rfl rfl htw.1 htw.2 ((kept_two w []).trans hkm (by simp)) (Nat.le_refl _) rfl
  | false =>
    cases hd : isDig s[p] with
    | true =>
      have HW : Hid (∀ w, _) := fun w => readNumber_any s p hp hs hl hd w
      rw [hV] at HW ⊢
      have HL : Hid _ := hl
      have HD : Hid _ := hd
      clear hl hs hV hd
      go_enter Try.func17, Try.ntmps17
      go_wp2_with (first
        | (go_at_call 30; refine (isLetter_any _ _).mono ?_; rintro e w1 ⟨rfl, hw⟩; replace hw := hw.symm; subst hw; rw [HL.out])
        | (go_at_call 32; refine (isDigit_any _ _).mono ?_; rintro e w1 ⟨rfl, hw⟩; replace hw := hw.symm; subst hw; rw [HD.out])
        | (go_at_call 33; refine (HW.out _).mono ?_; rintro e w1 ⟨rfl, hkm⟩; have htw := (two_new w).kept hkm; obtain ⟨⟨c0, c1, c2, c3, c4, c5⟩, f0, f1, f2, f3, f4, f5⟩ := htw.facts))
      exact leave_word Try.results17 rfl rfl rfl htw.1 htw.2 ((kept_two w []).trans hkm (by simp)) (Nat.le_refl _) rfl
    | false =>
      by_cases hq : s[p] = 34
      · have HW : Hid (∀ w, _) := fun w => readQuoted_any s p hp hs hq w
        rw [hV] at HW ⊢
        have HL : Hid _ := hl
        have HD : Hid _ := hd
        have hx : s[p].toNat = 34 := by rw [hq]; rfl
        have HLa : Hid (∀ w, Calls Try.prog 30 #[.int .u8 34] w fun e w' => e = .returned (.bool false) ∧ w' = w) := fun w => isLetter_any 34 w
        have HDa : Hid (∀ w, Calls Try.prog 32 #[.int .u8 34] w fun e w' => e = .returned (.bool false) ∧ w' = w) := fun w => isDigit_any 34 w
        clear hl hs hV hd hq HL HD
        go_enter Try.func17, Try.ntmps17
        go_wp2_with (first
          | (go_at_call 30; refine (HLa.out _).mono ?_; rintro e w1 ⟨rfl, hw⟩; replace hw := hw.symm; subst hw)
          | (go_at_call 32; refine (HDa.out _).mono ?_; rintro e w1 ⟨rfl, hw⟩; replace hw := hw.symm; subst hw)
          | (go_at_call 34; refine (HW.out _).mono ?_; rintro e w1 ⟨rfl, hkm⟩; have htw := (two_new w).kept hkm; obtain ⟨⟨c0, c1, c2, c3, c4, c5⟩, f0, f1, f2, f3, f4, f5⟩ := htw.facts))
        exact leave_word Try.results17 rfl rfl rfl htw.1 htw.2 ((kept_two w []).trans hkm (by simp)) (Nat.le_refl _) rfl
      · have HW : Hid (∀ w, _) := fun w => readSign_any s p hp hs hl hd (by simpa using hq) w
        rw [hV] at HW ⊢
        have HL : Hid _ := hl
        have HD : Hid _ := hd
        have hx : ¬ s[p].toNat = 34 := fun e => hq (UInt8.toNat_inj.1 e)
        clear hl hs hV hd hq
        go_enter Try.func17, Try.ntmps17
        go_wp2_with (first
          | (go_at_call 30; refine (isLetter_any _ _).mono ?_; rintro e w1 ⟨rfl, hw⟩; replace hw := hw.symm; subst hw; rw [HL.out])
          | (go_at_call 32; refine (isDigit_any _ _).mono ?_; rintro e w1 ⟨rfl, hw⟩; replace hw := hw.symm; subst hw; rw [HD.out])
          | (go_at_call 35; refine (HW.out _).mono ?_; rintro e w1 ⟨rfl, hkm⟩; have htw := (two_new w).kept hkm; obtain ⟨⟨c0, c1, c2, c3, c4, c5⟩, f0, f1, f2, f3, f4, f5⟩ := htw.facts))
        exact leave_word Try.results17 rfl rfl rfl htw.1 htw.2 ((kept_two w []).trans hkm (by simp)) (Nat.le_refl _) rfl

end Go.Proofs.Ytmaaiahapmplgaa
