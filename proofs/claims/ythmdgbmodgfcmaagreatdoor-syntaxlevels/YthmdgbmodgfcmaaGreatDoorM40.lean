/-
  LSign.
-/
import Derived.Test.YthmdgbmodgfcmaaGreatDoorM39
/-
  What readSign does.
-/
namespace Go.Proofs.YthmdgbmodgfcmaaGreatDoor
open Go.RowKit

theorem wordOf_sign {c : UInt8} {r : List UInt8} (h0 : isLet c = false) (h1 : isDig c = false) (h2 : (c == 34) = false) :
    wordOf c r = if pairAt c r = true then .ok (4, (c :: r).take 2, 0, 2) else if [c] ∈ signs then .ok (4, [c], 0, 1) else .error (20, 0) := by
  unfold wordOf; rw [if_neg (by simp [h0]), if_neg (by simp [h1]), if_neg (by simp [h2])]

theorem bytes_two (s : ByteArray) (p : Nat) (h : p + 1 < s.size) : bytesOf (s.extract p (p + 2)) = [s[p], s[p + 1]] := by
  rw [bytes_extract, List.drop_take, drop_at s p (by omega), drop_at s (p + 1) h]
  simp

theorem bytes_one (s : ByteArray) (p : Nat) (h : p < s.size) : bytesOf (s.extract p (p + 1)) = [s[p]] := by
  rw [bytes_extract, List.drop_take, drop_at s p h]
  simp

set_option maxHeartbeats 8000000 in
set_option maxRecDepth 100000 in
theorem readSign_any (s : ByteArray) (p : Nat) (hp : p < s.size) (hs : s.size ≤ 65536) (hn : isLet s[p] = false) (hl : isDig s[p] = false) (hq : (s[p] == 34) = false) (w : World) :
    Calls Tryz.prog 75 #[.string s, .int .i64 p] w fun e w' => e = .returned (wordV p (wordOf s[p] ((bytesOf s).drop (p + 1)))) ∧ Kept [] w w' := by
  obtain ⟨V, hV⟩ : ∃ V, wordV p (wordOf s[p] ((bytesOf s).drop (p + 1))) = V := ⟨_, rfl⟩
  rw [hV]
  rw [wordOf_sign hn hl hq] at hV
  have HP1 : Hid (∀ w, _) := fun w => piece_any s p (p + 1) (by omega) (by omega) hs w
  have HS1 : Hid (∀ w, _) := fun w => isSign_any (s.extract p (p + 1)) w
  have hb1 := bytes_one s p hp
  rw [toList_bytes, hb1] at HS1
  have hpb : (p : Int) ≤ 65535 := by omega
  have h0 : (0 : Int) ≤ (p : Int) := by omega
  have hpl : (p : Int) < (s.size : Int) := by omega
  have ht1 : s.extract p (p + 1) = strL [s[p]] := by rw [← strL_bytesOf (s.extract p (p + 1)), hb1]
  have H1 : Hid _ := ht1
  clear hn hl hq hb1 ht1
  by_cases hnext : p + 1 < s.size
  · have hnext' : (p : Int) + 1 < (s.size : Int) := by omega
    have HP2 : Hid (∀ w, _) := fun w => piece_any s p (p + 2) (by omega) (by omega) hs w
    have HS2 : Hid (∀ w, _) := fun w => isPair_any (s.extract p (p + 2)) w
    have hb2 := bytes_two s p hnext
    rw [toList_bytes, hb2] at HS2
    have hpa : pairAt s[p] ((bytesOf s).drop (p + 1)) = decide ([s[p], s[p + 1]] ∈ pairs) := by rw [drop_at s (p + 1) hnext]; rfl
    have ht2 : s.extract p (p + 2) = strL ((s[p] :: (bytesOf s).drop (p + 1)).take 2) := by rw [← strL_bytesOf (s.extract p (p + 2)), hb2, drop_at s (p + 1) hnext]; rfl
    rw [hpa] at hV
    have H2 : Hid _ := ht2
    have HV : Hid _ := hV
    clear hV hb2 hpa ht2 hs
    by_cases hpair : [s[p], s[p + 1]] ∈ pairs
    · go_enter Tryz.func75, Tryz.ntmps75
      go_wp2_with (first
        | (go_at_call 101; refine (HS2.out _).mono ?_; rintro e w1 ⟨rfl, hw⟩; replace hw := hw.symm; subst hw; rw [decide_eq_true hpair])
        | (go_at_call 97; refine (HP2.out _).mono ?_; rintro e w1 ⟨rfl, hkm⟩; have htw := (two_new w).kept hkm; obtain ⟨⟨c0, c1, c2, c3, c4, c5⟩, f0, f1, f2, f3, f4, f5⟩ := htw.facts))
      exact leave_word Tryz.results75 rfl rfl rfl htw.1 htw.2 ((kept_two w []).trans hkm (by simp)) (Nat.le_refl _) (by rw [← HV.out, if_pos (decide_eq_true hpair)]; unfold wordV; simp only [← H2.out]; rfl)
    · by_cases hsign : [s[p]] ∈ signs
      · go_enter Tryz.func75, Tryz.ntmps75
        go_wp2_with (first
          | (go_at_call 101; refine (HS2.out _).mono ?_; rintro e w1 ⟨rfl, hw⟩; replace hw := hw.symm; subst hw; rw [decide_eq_false hpair])
          | (go_at_call 102; refine (HS1.out _).mono ?_; rintro e w1 ⟨rfl, hw⟩; replace hw := hw.symm; subst hw; rw [decide_eq_true hsign])
          | (go_at_call 97; refine (HP1.out _).mono ?_; rintro e w1 ⟨rfl, hkm⟩; have htw := (two_new w).kept hkm; obtain ⟨⟨c0, c1, c2, c3, c4, c5⟩, f0, f1, f2, f3, f4, f5⟩ := htw.facts))
        exact leave_word Tryz.results75 rfl rfl rfl htw.1 htw.2 ((kept_two w []).trans hkm (by simp)) (Nat.le_refl _) (by rw [← HV.out, if_neg (by simpa using hpair), if_pos hsign]; unfold wordV; simp only [← H1.out]; rfl)
      · go_enter Tryz.func75, Tryz.ntmps75
        go_wp2_with (first
          | (go_at_call 101; refine (HS2.out _).mono ?_; rintro e w1 ⟨rfl, hw⟩; replace hw := hw.symm; subst hw; rw [decide_eq_false hpair])
          | (go_at_call 102; refine (HS1.out _).mono ?_; rintro e w1 ⟨rfl, hw⟩; replace hw := hw.symm; subst hw; rw [decide_eq_false hsign])
          | (go_at_call 49; refine (mishap_any _ _ _).mono ?_; rintro e w1 ⟨rfl, hkm⟩; have htw := (two_new w).kept hkm; obtain ⟨⟨c0, c1, c2, c3, c4, c5⟩, f0, f1, f2, f3, f4, f5⟩ := htw.facts))
        exact leave_word Tryz.results75 rfl rfl rfl htw.1 htw.2 ((kept_two w []).trans hkm (by simp)) (Nat.le_refl _) (by rw [← HV.out, if_neg (by simpa using hpair), if_neg hsign]; rfl)
  · have hnext' : ¬ (p : Int) + 1 < (s.size : Int) := by omega
    have hpa : pairAt s[p] ((bytesOf s).drop (p + 1)) = false := by rw [List.drop_eq_nil_of_le (by rw [bytesOf_length]; omega)]; rfl
    rw [hpa] at hV
    have HV : Hid _ := hV
    clear hV hpa hs
    by_cases hsign : [s[p]] ∈ signs
    · go_enter Tryz.func75, Tryz.ntmps75
      go_wp2_with (first
        | (go_at_call 102; refine (HS1.out _).mono ?_; rintro e w1 ⟨rfl, hw⟩; replace hw := hw.symm; subst hw; rw [decide_eq_true hsign])
        | (go_at_call 97; refine (HP1.out _).mono ?_; rintro e w1 ⟨rfl, hkm⟩; have htw := (two_new w).kept hkm; obtain ⟨⟨c0, c1, c2, c3, c4, c5⟩, f0, f1, f2, f3, f4, f5⟩ := htw.facts))
      exact leave_word Tryz.results75 rfl rfl rfl htw.1 htw.2 ((kept_two w []).trans hkm (by simp)) (Nat.le_refl _) (by rw [← HV.out, if_neg (by simp), if_pos hsign]; unfold wordV; simp only [← H1.out]; rfl)
    · go_enter Tryz.func75, Tryz.ntmps75
      go_wp2_with (first
        | (go_at_call 102; refine (HS1.out _).mono ?_; rintro e w1 ⟨rfl, hw⟩; replace hw := hw.symm; subst hw; rw [decide_eq_false hsign])
        | (go_at_call 49; refine (mishap_any _ _ _).mono ?_; rintro e w1 ⟨rfl, hkm⟩; have htw := (two_new w).kept hkm; obtain ⟨⟨c0, c1, c2, c3, c4, c5⟩, f0, f1, f2, f3, f4, f5⟩ := htw.facts))
      exact leave_word Tryz.results75 rfl rfl rfl htw.1 htw.2 ((kept_two w []).trans hkm (by simp)) (Nat.le_refl _) (by rw [← HV.out, if_neg (by simp), if_neg hsign]; rfl)

end Go.Proofs.YthmdgbmodgfcmaaGreatDoor
