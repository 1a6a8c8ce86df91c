/-
  What readNumber does.
-/
import Derived.Test.YtmaaiahapmplgaaLName
namespace Go.Proofs.Ytmaaiahapmplgaa
open Go.RowKit

theorem wordOf_num {c : UInt8} {r : List UInt8} (h0 : isLet c = false) (h : isDig c = true) : wordOf c r = if 10 < tw isDig (c :: r) then .error (22, 0) else if letAt ((c :: r).drop (tw isDig (c :: r))) = true then .error (22, 0)
    else if 2147483647 < valD ((c :: r).takeWhile isDig) then .error (22, 0) else .ok (2, (c :: r).takeWhile isDig, valD ((c :: r).takeWhile isDig), tw isDig (c :: r)) := by
  unfold wordOf; rw [if_neg (by simp [h0]), if_pos h]; rfl

theorem takeWhile_all (pred : UInt8 → Bool) (l : List UInt8) : ∀ c ∈ l.takeWhile pred, pred c = true := by
  induction l with
  | nil => simp
  | cons d r ih =>
    by_cases h : pred d = true
    · simpa [h] using ih
    · simp [h]

theorem letAt_at (s : ByteArray) (k : Nat) (h : k < s.size) : letAt ((bytesOf s).drop k) = isLet s[k] := by rw [drop_at s k h]; rfl
theorem letAt_end (s : ByteArray) (k : Nat) (h : s.size ≤ k) : letAt ((bytesOf s).drop k) = false := by
  rw [List.drop_eq_nil_of_le (by rw [bytesOf_length]; exact h)]; rfl

set_option maxHeartbeats 8000000 in
set_option maxRecDepth 100000 in
theorem readNumber_any (s : ByteArray) (p : Nat) (hp : p < s.size) (hs : s.size ≤ 65536) (hn : isLet s[p] = false) (hl : isDig s[p] = true) (w : World) :
    Calls Try.prog 33 #[.string s, .int .i64 p] w fun e w' => e = .returned (wordV p (wordOf s[p] ((bytesOf s).drop (p + 1)))) ∧ Kept [] w w' := by
  obtain ⟨V, hV⟩ : ∃ V, wordV p (wordOf s[p] ((bytesOf s).drop (p + 1))) = V := ⟨_, rfl⟩
  rw [hV]
  rw [wordOf_num hn hl, ← drop_at s p hp] at hV
  have HE : Hid (∀ w, _) := fun w => endOf_num s p (by omega) hs w
  have hte := tw_le s p isDig (by omega)
  have hpt := piece_tw s p isDig
  have hall := takeWhile_all isDig ((bytesOf s).drop p)
  have hlen : (((bytesOf s).drop p).takeWhile isDig).length = tw isDig ((bytesOf s).drop p) := rfl
  obtain ⟨m, hm⟩ : ∃ m, tw isDig ((bytesOf s).drop p) = m := ⟨_, rfl⟩
  rw [hm] at HE hV hte hpt hlen
  rw [List.drop_drop] at hV
  have HP : Hid (∀ w, _) := fun w => piece_any s p (p + m) (by omega) hte hs w
  have HS : Hid (s.size ≤ 65536) := hs
  have hpb : (p : Int) + (m : Int) ≤ 65536 := by omega
  have hpc : (p : Int) + (m : Int) ≤ (s.size : Int) := by omega
  have h0 : (0 : Int) ≤ (p : Int) := by omega
  have h1 : (p : Int) ≤ (p : Int) + (m : Int) := by omega
  clear hl hs hm hn
  obtain ⟨t, ht⟩ : ∃ t, s.extract p (p + m) = t := ⟨_, rfl⟩
  have hT : bytesOf t = ((bytesOf s).drop p).takeWhile isDig := by rw [← ht, hpt, bytesOf_strL]
  rw [← hT] at hV hall hlen
  rw [bytesOf_length] at hlen
  have HVal : Hid (m ≤ 10 → ∀ w, _) := fun h10 w => value_any t hall (by omega) w
  obtain ⟨v, hv⟩ : ∃ v, valD (bytesOf t) = v := ⟨_, rfl⟩
  rw [hv] at hV HVal
  have hvb : m ≤ 10 → v < 10000000000 := fun h10 => by
    have h2 := valD_lt _ hall
    rw [hv, bytesOf_length, hlen] at h2
    have h3 : (10 : Nat) ^ m ≤ 10 ^ 10 := Nat.pow_le_pow_right (by decide) h10
    have h4 : (10 : Nat) ^ 10 = 10000000000 := by decide
    omega
  rw [ht] at HP
  have HV : Hid _ := hV
  have HT : Hid (strL (bytesOf t) = t) := strL_bytesOf t
  clear hpt hT hV hall hlen hv
  by_cases h10 : 10 < m
  · have h10' : (10 : Int) < (m : Int) := by omega
    clear hvb
    go_enter Try.func33, Try.ntmps33
    go_wp2_with (first
      | (go_at_call 41; refine (HE.out _).mono ?_; rintro e w1 ⟨rfl, hw⟩; replace hw := hw.symm; subst hw)
      | (go_at_call 15; refine (mishap_any _ _ _).mono ?_; rintro e w1 ⟨rfl, hkm⟩; have htw := (two_new w).kept hkm; obtain ⟨⟨c0, c1, c2, c3, c4, c5⟩, f0, f1, f2, f3, f4, f5⟩ := htw.facts))
    exact leave_word Try.results33 rfl rfl rfl htw.1 htw.2 ((kept_two w []).trans hkm (by simp)) (Nat.le_refl _) (by rw [← HV.out, if_pos h10]; rfl)
  · have h10' : ¬ (10 : Int) < (m : Int) := by omega
    have hVal := HVal.out (by omega)
    have HVb : Hid _ := hvb (by omega)
    have HVL : Hid (∀ w, _) := hVal
    clear hvb HVal hVal
    by_cases hend : p + m < s.size
    · have hend' : (p : Int) + (m : Int) < (s.size : Int) := by omega
      cases hlt : isLet s[p + m] with
      | true =>
        have HL : Hid _ := hlt
        clear hlt
        go_enter Try.func33, Try.ntmps33
        go_wp2_with (first
          | (go_at_call 41; refine (HE.out _).mono ?_; rintro e w1 ⟨rfl, hw⟩; replace hw := hw.symm; subst hw)
          | (go_at_call 30; refine (isLetter_any _ _).mono ?_; rintro e w1 ⟨rfl, hw⟩; replace hw := hw.symm; subst hw; rw [HL.out])
          | (go_at_call 15; refine (mishap_any _ _ _).mono ?_; rintro e w1 ⟨rfl, hkm⟩; have htw := (two_new w).kept hkm; obtain ⟨⟨c0, c1, c2, c3, c4, c5⟩, f0, f1, f2, f3, f4, f5⟩ := htw.facts))
        exact leave_word Try.results33 rfl rfl rfl htw.1 htw.2 ((kept_two w []).trans hkm (by simp)) (Nat.le_refl _) (by rw [← HV.out, if_neg h10, if_pos (by rw [letAt_at s _ hend]; exact HL.out)]; rfl)
      | false =>
        have HL : Hid _ := hlt
        clear hlt
        by_cases hbig : 2147483647 < v
        · have hbig' : decide ((2147483647 : Int) < (v : Int)) = true := by simp; omega
          have HBig : Hid _ := hbig
          clear hbig
          go_enter Try.func33, Try.ntmps33
          go_wp2_with (first
            | (go_at_call 41; refine (HE.out _).mono ?_; rintro e w1 ⟨rfl, hw⟩; replace hw := hw.symm; subst hw)
            | (go_at_call 30; refine (isLetter_any _ _).mono ?_; rintro e w1 ⟨rfl, hw⟩; replace hw := hw.symm; subst hw; rw [HL.out])
            | (go_at_call 44; refine (HVL.out _).mono ?_; rintro e w1 ⟨rfl, hw⟩; replace hw := hw.symm; subst hw)
            | (go_at_call 43; refine (HP.out _).mono ?_; rintro e w1 ⟨rfl, hkm⟩; have htw := (two_new w).kept hkm; obtain ⟨⟨c0, c1, c2, c3, c4, c5⟩, f0, f1, f2, f3, f4, f5⟩ := htw.facts)
            | (go_at_call 15; refine (mishap_any _ _ _).mono ?_; rintro e w1 ⟨rfl, hkm⟩; have htw := (two_new w).kept hkm; obtain ⟨⟨c0, c1, c2, c3, c4, c5⟩, f0, f1, f2, f3, f4, f5⟩ := htw.facts))
          exact leave_word Try.results33 rfl rfl rfl htw.1 htw.2 ((kept_two w []).trans hkm (by simp)) (Nat.le_refl _) (by rw [← HV.out, if_neg h10, if_neg (by rw [letAt_at s _ hend, HL.out]; simp), if_pos HBig.out]; rfl)
        · have hbig' : decide ((2147483647 : Int) < (v : Int)) = false := by simp; omega
          have HBig : Hid _ := hbig
          clear hbig
          go_enter Try.func33, Try.ntmps33
          go_wp2_with (first
            | (go_at_call 41; refine (HE.out _).mono ?_; rintro e w1 ⟨rfl, hw⟩; replace hw := hw.symm; subst hw)
            | (go_at_call 30; refine (isLetter_any _ _).mono ?_; rintro e w1 ⟨rfl, hw⟩; replace hw := hw.symm; subst hw; rw [HL.out])
            | (go_at_call 44; refine (HVL.out _).mono ?_; rintro e w1 ⟨rfl, hw⟩; replace hw := hw.symm; subst hw)
            | (go_at_call 43; refine (HP.out _).mono ?_; rintro e w1 ⟨rfl, hkm⟩; have htw := (two_new w).kept hkm; obtain ⟨⟨c0, c1, c2, c3, c4, c5⟩, f0, f1, f2, f3, f4, f5⟩ := htw.facts)
            | (go_at_call 15; refine (mishap_any _ _ _).mono ?_; rintro e w1 ⟨rfl, hkm⟩; have htw := (two_new w).kept hkm; obtain ⟨⟨c0, c1, c2, c3, c4, c5⟩, f0, f1, f2, f3, f4, f5⟩ := htw.facts))
          exact leave_word Try.results33 rfl rfl rfl htw.1 htw.2 ((kept_two w []).trans hkm (by simp)) (Nat.le_refl _) (by rw [← HV.out, if_neg h10, if_neg (by rw [letAt_at s _ hend, HL.out]; simp), if_neg HBig.out]; unfold wordV; simp only [HT.out]; rfl)
    · have hend' : ¬ (p : Int) + (m : Int) < (s.size : Int) := by omega
      by_cases hbig : 2147483647 < v
      · have hbig' : decide ((2147483647 : Int) < (v : Int)) = true := by simp; omega
        have HBig : Hid _ := hbig
        clear hbig
        go_enter Try.func33, Try.ntmps33
        go_wp2_with (first
          | (go_at_call 41; refine (HE.out _).mono ?_; rintro e w1 ⟨rfl, hw⟩; replace hw := hw.symm; subst hw)
          | (go_at_call 44; refine (HVL.out _).mono ?_; rintro e w1 ⟨rfl, hw⟩; replace hw := hw.symm; subst hw)
          | (go_at_call 43; refine (HP.out _).mono ?_; rintro e w1 ⟨rfl, hkm⟩; have htw := (two_new w).kept hkm; obtain ⟨⟨c0, c1, c2, c3, c4, c5⟩, f0, f1, f2, f3, f4, f5⟩ := htw.facts)
          | (go_at_call 15; refine (mishap_any _ _ _).mono ?_; rintro e w1 ⟨rfl, hkm⟩; have htw := (two_new w).kept hkm; obtain ⟨⟨c0, c1, c2, c3, c4, c5⟩, f0, f1, f2, f3, f4, f5⟩ := htw.facts))
        exact leave_word Try.results33 rfl rfl rfl htw.1 htw.2 ((kept_two w []).trans hkm (by simp)) (Nat.le_refl _) (by rw [← HV.out, if_neg h10, if_neg (by rw [letAt_end s _ (by omega)]; simp), if_pos HBig.out]; rfl)
      · have hbig' : decide ((2147483647 : Int) < (v : Int)) = false := by simp; omega
        have HBig : Hid _ := hbig
        clear hbig
        go_enter Try.func33, Try.ntmps33
        go_wp2_with (first
          | (go_at_call 41; refine (HE.out _).mono ?_; rintro e w1 ⟨rfl, hw⟩; replace hw := hw.symm; subst hw)
          | (go_at_call 44; refine (HVL.out _).mono ?_; rintro e w1 ⟨rfl, hw⟩; replace hw := hw.symm; subst hw)
          | (go_at_call 43; refine (HP.out _).mono ?_; rintro e w1 ⟨rfl, hkm⟩; have htw := (two_new w).kept hkm; obtain ⟨⟨c0, c1, c2, c3, c4, c5⟩, f0, f1, f2, f3, f4, f5⟩ := htw.facts)
          | (go_at_call 15; refine (mishap_any _ _ _).mono ?_; rintro e w1 ⟨rfl, hkm⟩; have htw := (two_new w).kept hkm; obtain ⟨⟨c0, c1, c2, c3, c4, c5⟩, f0, f1, f2, f3, f4, f5⟩ := htw.facts))
        exact leave_word Try.results33 rfl rfl rfl htw.1 htw.2 ((kept_two w []).trans hkm (by simp)) (Nat.le_refl _) (by rw [← HV.out, if_neg h10, if_neg (by rw [letAt_end s _ (by omega)]; simp), if_neg HBig.out]; unfold wordV; simp only [HT.out]; rfl)

end Go.Proofs.Ytmaaiahapmplgaa
