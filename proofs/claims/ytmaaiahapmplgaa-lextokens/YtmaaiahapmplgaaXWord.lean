/-
  What the reference's word does: names, signs.
-/
import Derived.Test.YtmaaiahapmplgaaXBlank
import Derived.Test.YtmaaiahapmplgaaLKeys3
import Derived.Test.YtmaaiahapmplgaaLReserved
import Derived.Deep.Cut
namespace Go.Proofs.Ytmaaiahapmplgaa
open Go.RowKit

theorem isLD_of {c : UInt8} (h1 : isLet c = false) (h2 : isDig c = false) : isLD c = false := by unfold isLD; rw [h1, h2]; rfl
theorem isLD_let {c : UInt8} (h1 : isLet c = true) : isLD c = true := by unfold isLD; rw [h1]; rfl
theorem isLD_dig {c : UInt8} (h2 : isDig c = true) : isLD c = true := by unfold isLD; rw [h2]; simp

set_option maxHeartbeats 8000000 in
set_option maxRecDepth 100000 in
theorem word_name (s : ByteArray) (p : Nat) (hp : p < s.size) (hs : s.size ≤ 65536) (hl : isLet s[p] = true) (w : World) :
    Calls Try.prog 20 #[.string s, .int .i64 p] w fun e w' => e = .returned (rwordV p (wordOf s[p] ((bytesOf s).drop (p + 1)))) ∧ Kept [] w w' := by
  obtain ⟨V, hV⟩ : ∃ V, rwordV p (wordOf s[p] ((bytesOf s).drop (p + 1))) = V := ⟨_, rfl⟩
  rw [hV]
  rw [wordOf_name hl, ← drop_at s p hp] at hV
  have hpt := piece_tw s p isLD
  obtain ⟨m, hm⟩ : ∃ m, tw isLD ((bytesOf s).drop p) = m := ⟨_, rfl⟩
  rw [hm] at hV hpt
  have HPT : Hid (s.extract p (p + m) = strL (((bytesOf s).drop p).takeWhile isLD)) := hpt
  have HM : Hid (tw isLD ((bytesOf s).drop p) = m) := hm
  have HV : Hid _ := hV
  have HL : Hid (isLet s[p] = true) := hl
  obtain ⟨Z, hZ⟩ : ∃ Z : Int, (s.size : Int) = Z := ⟨_, rfl⟩
  have hZ0 : Z ≤ 65536 := by omega
  have hpZ : (p : Int) < Z := by omega
  have hRT := rtwo_new w
  have hRK := rkept_two w []
  clear hV hm hs hl hpt
  go_enter Try.func20, Try.ntmps20
  go_upto_region 1 with fail
  obtain ⟨W0, hW0⟩ : ∃ W0, (w.alloc (.cells #[.int .i64 0, .string ⟨#[]⟩, .int .i64 0, .int .i64 0] 34)).alloc (.cells #[.int .i64 0, .int .i64 0] 26) = W0 := ⟨_, rfl⟩
  rw [hW0] at hRT hRK ⊢
  have HRK : Hid (Kept [] w W0) := hRK
  clear hW0 hRK
  go_wp2_with (first
    | (go_at_call 36; refine (Letter_any _ _).mono ?_; rintro e w1 ⟨rfl, hw⟩; replace hw := hw.symm; subst hw; rw [HL.out]))
  go_loop [8] (fun iv => ∃ a : Nat, p ≤ a ∧ a ≤ s.size ∧ iv = .int .i64 (a : Int) ∧ p + tw isLD ((bytesOf s).drop p) = a + tw isLD ((bytesOf s).drop a))
    (fun iv => s.size - (intOf iv).toNat)
  case atStart => exact ⟨p, Nat.le_refl _, by omega, rfl, rfl⟩
  case round =>
    obtain ⟨a, hpa, has, rfl, hrel⟩ := hrel
    have HR : Hid _ := hrel
    clear hrel
    have hend : ((h : a < s.size) → isLD s[a] = false) → a = p + m := fun h => by
      have h1 := HR.out
      rw [HM.out] at h1
      by_cases hlt : a < s.size
      · rw [tw_no hlt (h hlt)] at h1
        omega
      · have has2 : a = s.size := by omega
        subst has2
        rw [tw_end] at h1
        omega
    by_cases hlt : a < s.size
    · have hlt' : (a : Int) < Z := by omega
      cases hb : isLet s[a] with
      | true =>
        have HB : Hid _ := hb
        clear hb hend
        go_wp2_with (first
          | (go_at_call 36; refine (Letter_any _ _).mono ?_; rintro e w1 ⟨rfl, hw⟩; replace hw := hw.symm; subst hw; rw [HB.out]))
        go_round
        case rel => exact ⟨a + 1, by omega, by omega, by go_num, HR.out.trans (tw_yes hlt (isLD_let HB.out))⟩
        case measure => simp [intOf]; omega
      | false =>
        cases hd : isDig s[a] with
        | true =>
          have HB : Hid _ := hb
          have HD : Hid _ := hd
          clear hb hd hend
          go_wp2_with (first
            | (go_at_call 36; refine (Letter_any _ _).mono ?_; rintro e w1 ⟨rfl, hw⟩; replace hw := hw.symm; subst hw; rw [HB.out])
            | (go_at_call 37; refine (digit_any _ _).mono ?_; rintro e w1 ⟨rfl, hw⟩; replace hw := hw.symm; subst hw; rw [HD.out]))
          go_round
          case rel => exact ⟨a + 1, by omega, by omega, by go_num, HR.out.trans (tw_yes hlt (isLD_dig HD.out))⟩
          case measure => simp [intOf]; omega
        | false =>
          have HB : Hid _ := hb
          have HD : Hid _ := hd
          have ham := hend (fun _ => isLD_of hb hd)
          clear hb hd hend
          have hsub : (a : Int) - (p : Int) = (m : Int) := by omega
          have HAM : Hid (a = p + m) := ham
          have hpa' : (p : Int) ≤ (a : Int) := by omega
          have has' : (a : Int) ≤ Z := by omega
          have HNm : Hid (∀ w, Calls Try.prog 24 #[.string (s.extract p a)] w fun e w' => e = .returned (.bool (decide (((bytesOf s).drop p).takeWhile isLD ∈ keyNames))) ∧ w' = w) := fun w => by
            have h1 := name_any (s.extract p a) w
            rw [toList_bytes, ham, HPT.out, bytesOf_strL] at h1
            rw [ham, HPT.out]
            exact h1
          clear ham
          by_cases h32 : 32 < m
          · have h32' : (32 : Int) < (m : Int) := by omega
            go_wp2_with (first
              | (go_at_call 36; refine (Letter_any _ _).mono ?_; rintro e w1 ⟨rfl, hw⟩; replace hw := hw.symm; subst hw; rw [HB.out])
              | (go_at_call 37; refine (digit_any _ _).mono ?_; rintro e w1 ⟨rfl, hw⟩; replace hw := hw.symm; subst hw; rw [HD.out])
              | (go_at_call 18; refine (bad_any _ _ _).mono ?_; rintro e w1 ⟨rfl, hkm⟩; have htw1 := hRT.kept hkm; obtain ⟨⟨c0, c1, c2, c3, c4, c5⟩, f0, f1, f2, f3, f4, f5⟩ := htw1.facts))
            exact rleave_word Try.results20 rfl rfl rfl htw1.1 htw1.2 (HRK.out.trans hkm (by simp)) (Nat.le_refl _) (by rw [← HV.out, if_pos h32]; rfl)
          · have h32' : ¬ (32 : Int) < (m : Int) := by omega
            obtain ⟨⟨c0, c1, c2, c3, c4, c5⟩, f0, f1, f2, f3, f4, f5⟩ := hRT.facts
            by_cases hkey : ((bytesOf s).drop p).takeWhile isLD ∈ keyNames
            · rw [decide_eq_true hkey] at HNm
              go_wp2_with (first
                | (go_at_call 36; refine (Letter_any _ _).mono ?_; rintro e w1 ⟨rfl, hw⟩; replace hw := hw.symm; subst hw; rw [HB.out])
                | (go_at_call 37; refine (digit_any _ _).mono ?_; rintro e w1 ⟨rfl, hw⟩; replace hw := hw.symm; subst hw; rw [HD.out])
                | (go_at_call 24; refine (HNm.out _).mono ?_; rintro e w1 ⟨rfl, hw⟩; replace hw := hw.symm; subst hw))
              exact rleave_word Try.results20 rfl rfl rfl hRT.1 hRT.2 HRK.out (Nat.le_refl _) (by rw [← HV.out, if_neg h32, if_pos hkey]; unfold rwordV; simp only [← HPT.out, HAM.out]; rfl)
            · rw [decide_eq_false hkey] at HNm
              go_wp2_with (first
                | (go_at_call 36; refine (Letter_any _ _).mono ?_; rintro e w1 ⟨rfl, hw⟩; replace hw := hw.symm; subst hw; rw [HB.out])
                | (go_at_call 37; refine (digit_any _ _).mono ?_; rintro e w1 ⟨rfl, hw⟩; replace hw := hw.symm; subst hw; rw [HD.out])
                | (go_at_call 24; refine (HNm.out _).mono ?_; rintro e w1 ⟨rfl, hw⟩; replace hw := hw.symm; subst hw))
              exact rleave_word Try.results20 rfl rfl rfl hRT.1 hRT.2 HRK.out (Nat.le_refl _) (by rw [← HV.out, if_neg h32, if_neg hkey]; unfold rwordV; simp only [← HPT.out, HAM.out]; rfl)
    · have hlt' : ¬ (a : Int) < Z := by omega
      have ham := hend (fun h => absurd h hlt)
      clear hend
      have hsub : (a : Int) - (p : Int) = (m : Int) := by omega
      have HAM : Hid (a = p + m) := ham
      have hpa' : (p : Int) ≤ (a : Int) := by omega
      have has' : (a : Int) ≤ Z := by omega
      have HNm : Hid (∀ w, Calls Try.prog 24 #[.string (s.extract p a)] w fun e w' => e = .returned (.bool (decide (((bytesOf s).drop p).takeWhile isLD ∈ keyNames))) ∧ w' = w) := fun w => by
        have h1 := name_any (s.extract p a) w
        rw [toList_bytes, ham, HPT.out, bytesOf_strL] at h1
        rw [ham, HPT.out]
        exact h1
      clear ham
      by_cases h32 : 32 < m
      · have h32' : (32 : Int) < (m : Int) := by omega
        go_wp2_with (first
          | (go_at_call 18; refine (bad_any _ _ _).mono ?_; rintro e w1 ⟨rfl, hkm⟩; have htw1 := hRT.kept hkm; obtain ⟨⟨c0, c1, c2, c3, c4, c5⟩, f0, f1, f2, f3, f4, f5⟩ := htw1.facts))
        exact rleave_word Try.results20 rfl rfl rfl htw1.1 htw1.2 (HRK.out.trans hkm (by simp)) (Nat.le_refl _) (by rw [← HV.out, if_pos h32]; rfl)
      · have h32' : ¬ (32 : Int) < (m : Int) := by omega
        obtain ⟨⟨c0, c1, c2, c3, c4, c5⟩, f0, f1, f2, f3, f4, f5⟩ := hRT.facts
        by_cases hkey : ((bytesOf s).drop p).takeWhile isLD ∈ keyNames
        · rw [decide_eq_true hkey] at HNm
          go_wp2_with (first
            | (go_at_call 24; refine (HNm.out _).mono ?_; rintro e w1 ⟨rfl, hw⟩; replace hw := hw.symm; subst hw))
          exact rleave_word Try.results20 rfl rfl rfl hRT.1 hRT.2 HRK.out (Nat.le_refl _) (by rw [← HV.out, if_neg h32, if_pos hkey]; unfold rwordV; simp only [← HPT.out, HAM.out]; rfl)
        · rw [decide_eq_false hkey] at HNm
          go_wp2_with (first
            | (go_at_call 24; refine (HNm.out _).mono ?_; rintro e w1 ⟨rfl, hw⟩; replace hw := hw.symm; subst hw))
          exact rleave_word Try.results20 rfl rfl rfl hRT.1 hRT.2 HRK.out (Nat.le_refl _) (by rw [← HV.out, if_neg h32, if_neg hkey]; unfold rwordV; simp only [← HPT.out, HAM.out]; rfl)

end Go.Proofs.Ytmaaiahapmplgaa
