/-
  What the reference's word does: numbers.
-/
import Derived.Test.YtmaaiahapmplgaaXSign
namespace Go.Proofs.Ytmaaiahapmplgaa
open Go.RowKit

/-- The digits that have been read: at most ten of them are told. -/
structure DigTo (s : ByteArray) (p a n : Nat) : Prop where
  lo : p ≤ a
  hi : a ≤ s.size
  tws : p + tw isDig ((bytesOf s).drop p) = a + tw isDig ((bytesOf s).drop a)
  val : n = valD (((bytesOf s).drop p).take (min (a - p) 10))

theorem DigTo.start {s : ByteArray} {p : Nat} (h : p < s.size) : DigTo s p p 0 := ⟨Nat.le_refl _, by omega, rfl, by simp [valD]⟩

theorem take_dig (pred : UInt8 → Bool) (l : List UInt8) (k : Nat) (h : k ≤ tw pred l) : ∀ c ∈ l.take k, pred c = true := by
  intro c hc
  have h1 : l.take k = (l.takeWhile pred).take k := by rw [← take_tw pred l, List.take_take, Nat.min_eq_left h]
  rw [h1] at hc
  exact takeWhile_all pred l c (List.mem_of_mem_take hc)

theorem DigTo.lt {s : ByteArray} {p a n : Nat} (h : DigTo s p a n) : n < 10000000000 := by
  have h1 := h.tws
  have h2 := h.lo
  rw [h.val]
  have h3 := valD_lt (((bytesOf s).drop p).take (min (a - p) 10)) (take_dig isDig _ _ (by omega))
  have h4 : (10 : Nat) ^ (((bytesOf s).drop p).take (min (a - p) 10)).length ≤ 10 ^ 10 := Nat.pow_le_pow_right (by decide) (by rw [List.length_take]; omega)
  have h5 : (10 : Nat) ^ 10 = 10000000000 := by decide
  omega

theorem DigTo.lt9 {s : ByteArray} {p a n : Nat} (h : DigTo s p a n) (h9 : a - p < 10) : n < 1000000000 := by
  have h1 := h.tws
  have h2 := h.lo
  rw [h.val]
  have h3 := valD_lt (((bytesOf s).drop p).take (min (a - p) 10)) (take_dig isDig _ _ (by omega))
  have h4 : (10 : Nat) ^ (((bytesOf s).drop p).take (min (a - p) 10)).length ≤ 10 ^ 9 := Nat.pow_le_pow_right (by decide) (by rw [List.length_take]; omega)
  have h5 : (10 : Nat) ^ 9 = 1000000000 := by decide
  omega

theorem drop_snoc (s : ByteArray) (p a : Nat) (hp : p ≤ a) (ha : a < s.size) : ((bytesOf s).drop p).take (a - p + 1) = ((bytesOf s).drop p).take (a - p) ++ [s[a]] := by
  rw [List.take_add_one, List.getElem?_drop, show p + (a - p) = a by omega]
  congr 1
  have h1 := drop_at s a ha
  have h2 : (bytesOf s)[a]? = ((bytesOf s).drop a)[0]? := by rw [List.getElem?_drop]; rfl
  rw [h2, h1]
  rfl

theorem DigTo.told {s : ByteArray} {p a n : Nat} (h : DigTo s p a n) (ha : a < s.size) (hd : isDig s[a] = true) (h9 : a - p < 10) : DigTo s p (a + 1) (n * 10 + (s[a].toNat - 48)) := by
  refine ⟨by have := h.lo; omega, ha, h.tws.trans (tw_yes ha hd), ?_⟩
  have h2 := h.lo
  rw [Nat.min_eq_left (by omega), show a + 1 - p = a - p + 1 by omega, drop_snoc s p a h2 ha, valD_snoc, h.val, Nat.min_eq_left (by omega)]

theorem DigTo.untold {s : ByteArray} {p a n : Nat} (h : DigTo s p a n) (ha : a < s.size) (hd : isDig s[a] = true) (h9 : ¬ a - p < 10) : DigTo s p (a + 1) n := by
  refine ⟨by have := h.lo; omega, ha, h.tws.trans (tw_yes ha hd), ?_⟩
  rw [h.val, Nat.min_eq_right (by omega), Nat.min_eq_right (by omega)]

theorem DigTo.done {s : ByteArray} {p a n : Nat} (h : DigTo s p a n) (hend : (h : a < s.size) → isDig s[a] = false) : a = p + tw isDig ((bytesOf s).drop p) := by
  have h1 := h.tws
  have h3 := h.hi
  by_cases hlt : a < s.size
  · rw [tw_no hlt (hend hlt)] at h1
    omega
  · have has2 : a = s.size := by omega
    subst has2
    rw [tw_end] at h1
    omega

theorem DigTo.all {s : ByteArray} {p a n : Nat} (h : DigTo s p a n) (ha : a = p + tw isDig ((bytesOf s).drop p)) (h10 : tw isDig ((bytesOf s).drop p) ≤ 10) : n = valD (((bytesOf s).drop p).takeWhile isDig) := by
  rw [h.val, show a - p = tw isDig ((bytesOf s).drop p) by omega, Nat.min_eq_left h10, take_tw]

set_option maxHeartbeats 8000000 in
set_option maxRecDepth 100000 in
theorem word_num (s : ByteArray) (p : Nat) (hp : p < s.size) (hs : s.size ≤ 65536) (hn : isLet s[p] = false) (hl : isDig s[p] = true) (w : World) :
    Calls Try.prog 20 #[.string s, .int .i64 p] w fun e w' => e = .returned (rwordV p (wordOf s[p] ((bytesOf s).drop (p + 1)))) ∧ Kept [] w w' := by
  obtain ⟨V, hV⟩ : ∃ V, rwordV p (wordOf s[p] ((bytesOf s).drop (p + 1))) = V := ⟨_, rfl⟩
  rw [hV]
  rw [wordOf_num hn hl, ← drop_at s p hp] at hV
  have hpt := piece_tw s p isDig
  obtain ⟨m, hm⟩ : ∃ m, tw isDig ((bytesOf s).drop p) = m := ⟨_, rfl⟩
  rw [hm] at hV hpt
  rw [List.drop_drop] at hV
  have HPT : Hid (s.extract p (p + m) = strL (((bytesOf s).drop p).takeWhile isDig)) := hpt
  have HM : Hid (tw isDig ((bytesOf s).drop p) = m) := hm
  have HV : Hid _ := hV
  have HL : Hid (isLet s[p] = false) := hn
  have HD0 : Hid (isDig s[p] = true) := hl
  obtain ⟨Z, hZ⟩ : ∃ Z : Int, (s.size : Int) = Z := ⟨_, rfl⟩
  have hZ0 : Z ≤ 65536 := by omega
  have hpZ : (p : Int) < Z := by omega
  have h0 : (0 : Int) ≤ (p : Int) := by omega
  have hRT := rtwo_new w
  have hRK := rkept_two w []
  clear hV hm hs hl hpt hn
  go_enter Try.func20, Try.ntmps20
  go_upto_region 1 with fail
  obtain ⟨W0, hW0⟩ : ∃ W0, (w.alloc (.cells #[.int .i64 0, .string ⟨#[]⟩, .int .i64 0, .int .i64 0] 34)).alloc (.cells #[.int .i64 0, .int .i64 0] 26) = W0 := ⟨_, rfl⟩
  rw [hW0] at hRT hRK ⊢
  have HRK : Hid (Kept [] w W0) := hRK
  clear hW0 hRK
  go_wp2_with (first
    | (go_at_call 36; refine (Letter_any _ _).mono ?_; rintro e w1 ⟨rfl, hw⟩; replace hw := hw.symm; subst hw; rw [HL.out])
    | (go_at_call 37; refine (digit_any _ _).mono ?_; rintro e w1 ⟨rfl, hw⟩; replace hw := hw.symm; subst hw; rw [HD0.out]))
  go_loop [8, 10] (fun iv nv => ∃ a n : Nat, iv = .int .i64 (a : Int) ∧ nv = .int .i64 (n : Int) ∧ DigTo s p a n)
    (fun iv _ => s.size - (intOf iv).toNat)
  case atStart => exact ⟨p, 0, rfl, rfl, DigTo.start hp⟩
  case round =>
    obtain ⟨a, n, rfl, rfl, hM⟩ := hrel
    have HMd : Hid (DigTo s p a n) := hM
    have hpa := hM.lo
    have has := hM.hi
    have hnb := hM.lt
    clear hM
    obtain ⟨d, hd0⟩ : ∃ d, a = p + d := ⟨a - p, by omega⟩
    have HAd : Hid (a = p + d) := hd0
    have hsub : (a : Int) - (p : Int) = (d : Int) := by omega
    by_cases hcond : ∃ h : a < s.size, isDig s[a] = true
    · obtain ⟨hlt, hb⟩ := hcond
      have hlt' : (a : Int) < Z := by omega
      have HB : Hid (isDig s[a] = true) := hb
      by_cases h9 : d < 10
      · have h9' : (d : Int) < 10 := by omega
        have hn9 := HMd.out.lt9 (by omega)
        have hn10 : (n : Int) < 1000000000 := by omega
        have hdg := hb
        rw [isDig_int] at hdg
        simp at hdg
        obtain ⟨h48, h57⟩ := hdg
        clear hb hnb hn9 hd0
        go_wp2_with (first
          | (go_at_call 37; refine (digit_any _ _).mono ?_; rintro e w1 ⟨rfl, hw⟩; replace hw := hw.symm; subst hw; rw [HB.out]))
        go_round
        case rel => exact ⟨a + 1, n * 10 + (s[a].toNat - 48), by go_num, by congr 1; omega, HMd.out.told hlt HB.out (by have := HAd.out; omega)⟩
        case measure => simp [intOf]; omega
      · have h9' : ¬ (d : Int) < 10 := by omega
        clear hb hnb hd0
        go_wp2_with (first
          | (go_at_call 37; refine (digit_any _ _).mono ?_; rintro e w1 ⟨rfl, hw⟩; replace hw := hw.symm; subst hw; rw [HB.out]))
        go_round
        case rel => exact ⟨a + 1, n, by go_num, rfl, HMd.out.untold hlt HB.out (by have := HAd.out; omega)⟩
        case measure => simp [intOf]; omega
    · have hend : (h : a < s.size) → isDig s[a] = false := fun h => by
        cases hb : isDig s[a] with
        | false => rfl
        | true => exact absurd ⟨h, hb⟩ hcond
      have ham0 := HMd.out.done hend
      have hnv := HMd.out.all ham0
      rw [HM.out] at ham0 hnv
      clear hsub
      have hsub : (a : Int) - (p : Int) = (m : Int) := by omega
      have HAM : Hid (a = p + m) := ham0
      have hpa' : (p : Int) ≤ (a : Int) := by omega
      have has' : (a : Int) ≤ Z := by omega
      by_cases hlt : a < s.size
      · have hlt' : (a : Int) < Z := by omega
        have HB : Hid (isDig s[a] = false) := hend hlt
        have HLA : Hid (letAt ((bytesOf s).drop (p + m)) = isLet s[a]) := by show _ = _; rw [← ham0]; exact letAt_at s a hlt
        clear hcond hnb hd0 ham0 hend HAd
        by_cases h10 : 10 < m
        · have h10' : (10 : Int) < (m : Int) := by omega
          go_wp2_with (first
            | (go_at_call 37; refine (digit_any _ _).mono ?_; rintro e w1 ⟨rfl, hw⟩; replace hw := hw.symm; subst hw; rw [HB.out])
            | (go_at_call 18; refine (bad_any _ _ _).mono ?_; rintro e w1 ⟨rfl, hkm⟩; have htw1 := hRT.kept hkm; obtain ⟨⟨c0, c1, c2, c3, c4, c5⟩, f0, f1, f2, f3, f4, f5⟩ := htw1.facts))
          exact rleave_word Try.results20 rfl rfl rfl htw1.1 htw1.2 (HRK.out.trans hkm (by simp)) (Nat.le_refl _) (by rw [← HV.out, if_pos h10]; rfl)
        · have h10' : ¬ (10 : Int) < (m : Int) := by omega
          have HNV : Hid (valD (((bytesOf s).drop p).takeWhile isDig) = n) := by show _ = _; exact (hnv (by omega)).symm
          have H10 : Hid (¬ 10 < m) := h10
          clear hnv h10
          by_cases hbig : 2147483647 < n
          · have hbig' : decide ((2147483647 : Int) < (n : Int)) = true := by simp; omega
            have HBig : Hid (2147483647 < n) := hbig
            clear hbig
            go_wp2_with (first
              | (go_at_call 37; refine (digit_any _ _).mono ?_; rintro e w1 ⟨rfl, hw⟩; replace hw := hw.symm; subst hw; rw [HB.out])
              | (go_at_call 18; refine (bad_any _ _ _).mono ?_; rintro e w1 ⟨rfl, hkm⟩; have htw1 := hRT.kept hkm; obtain ⟨⟨c0, c1, c2, c3, c4, c5⟩, f0, f1, f2, f3, f4, f5⟩ := htw1.facts))
            exact rleave_word Try.results20 rfl rfl rfl htw1.1 htw1.2 (HRK.out.trans hkm (by simp)) (Nat.le_refl _) (by rw [← HV.out, if_neg H10.out, HNV.out, if_pos HBig.out, ite_self]; rfl)
          · have hbig' : decide ((2147483647 : Int) < (n : Int)) = false := by simp; omega
            have HBig : Hid (¬ 2147483647 < n) := hbig
            clear hbig
            cases hlk : isLet s[a] with
            | true =>
              have HLk : Hid (isLet s[a] = true) := hlk
              clear hlk
              go_wp2_with (first
                | (go_at_call 37; refine (digit_any _ _).mono ?_; rintro e w1 ⟨rfl, hw⟩; replace hw := hw.symm; subst hw; rw [HB.out])
                | (go_at_call 36; refine (Letter_any _ _).mono ?_; rintro e w1 ⟨rfl, hw⟩; replace hw := hw.symm; subst hw; rw [HLk.out])
                | (go_at_call 18; refine (bad_any _ _ _).mono ?_; rintro e w1 ⟨rfl, hkm⟩; have htw1 := hRT.kept hkm; obtain ⟨⟨c0, c1, c2, c3, c4, c5⟩, f0, f1, f2, f3, f4, f5⟩ := htw1.facts))
              exact rleave_word Try.results20 rfl rfl rfl htw1.1 htw1.2 (HRK.out.trans hkm (by simp)) (Nat.le_refl _) (by rw [← HV.out, if_neg H10.out, if_pos (by rw [HLA.out]; exact HLk.out)]; rfl)
            | false =>
              have HLk : Hid (isLet s[a] = false) := hlk
              clear hlk
              obtain ⟨⟨c0, c1, c2, c3, c4, c5⟩, f0, f1, f2, f3, f4, f5⟩ := hRT.facts
              go_wp2_with (first
                | (go_at_call 37; refine (digit_any _ _).mono ?_; rintro e w1 ⟨rfl, hw⟩; replace hw := hw.symm; subst hw; rw [HB.out])
                | (go_at_call 36; refine (Letter_any _ _).mono ?_; rintro e w1 ⟨rfl, hw⟩; replace hw := hw.symm; subst hw; rw [HLk.out]))
              exact rleave_word Try.results20 rfl rfl rfl hRT.1 hRT.2 HRK.out (Nat.le_refl _) (by rw [← HV.out, if_neg H10.out, if_neg (by rw [HLA.out, HLk.out]; simp), HNV.out, if_neg HBig.out]; unfold rwordV; simp only [← HPT.out, HAM.out]; rfl)
      · have hlt' : ¬ (a : Int) < Z := by omega
        have HLA : Hid (letAt ((bytesOf s).drop (p + m)) = false) := by show _ = _; rw [← ham0]; exact letAt_end s a (by omega)
        clear hcond hnb hd0 ham0 hend HAd
        by_cases h10 : 10 < m
        · have h10' : (10 : Int) < (m : Int) := by omega
          go_wp2_with (first
            | (go_at_call 18; refine (bad_any _ _ _).mono ?_; rintro e w1 ⟨rfl, hkm⟩; have htw1 := hRT.kept hkm; obtain ⟨⟨c0, c1, c2, c3, c4, c5⟩, f0, f1, f2, f3, f4, f5⟩ := htw1.facts))
          exact rleave_word Try.results20 rfl rfl rfl htw1.1 htw1.2 (HRK.out.trans hkm (by simp)) (Nat.le_refl _) (by rw [← HV.out, if_pos h10]; rfl)
        · have h10' : ¬ (10 : Int) < (m : Int) := by omega
          have HNV : Hid (valD (((bytesOf s).drop p).takeWhile isDig) = n) := by show _ = _; exact (hnv (by omega)).symm
          have H10 : Hid (¬ 10 < m) := h10
          clear hnv h10
          by_cases hbig : 2147483647 < n
          · have hbig' : decide ((2147483647 : Int) < (n : Int)) = true := by simp; omega
            have HBig : Hid (2147483647 < n) := hbig
            clear hbig
            go_wp2_with (first
              | (go_at_call 18; refine (bad_any _ _ _).mono ?_; rintro e w1 ⟨rfl, hkm⟩; have htw1 := hRT.kept hkm; obtain ⟨⟨c0, c1, c2, c3, c4, c5⟩, f0, f1, f2, f3, f4, f5⟩ := htw1.facts))
            exact rleave_word Try.results20 rfl rfl rfl htw1.1 htw1.2 (HRK.out.trans hkm (by simp)) (Nat.le_refl _) (by rw [← HV.out, if_neg H10.out, HNV.out, if_pos HBig.out, ite_self]; rfl)
          · have hbig' : decide ((2147483647 : Int) < (n : Int)) = false := by simp; omega
            have HBig : Hid (¬ 2147483647 < n) := hbig
            clear hbig
            obtain ⟨⟨c0, c1, c2, c3, c4, c5⟩, f0, f1, f2, f3, f4, f5⟩ := hRT.facts
            go_wp2
            exact rleave_word Try.results20 rfl rfl rfl hRT.1 hRT.2 HRK.out (Nat.le_refl _) (by rw [← HV.out, if_neg H10.out, if_neg (by rw [HLA.out]; simp), HNV.out, if_neg HBig.out]; unfold rwordV; simp only [← HPT.out, HAM.out]; rfl)

end Go.Proofs.Ytmaaiahapmplgaa
