/-
  The walk of the statement sextantlaw02.LexNumbers.
-/
import Derived.Test.YtmaaiahapmplgaaLDigits
namespace Go.Proofs.Ytmaaiahapmplgaa
open Go.RowKit

theorem dig_not {c : UInt8} (h : isDig c = true) : isBl c = false ∧ (c == 47) = false ∧ isLet c = false := by
  rw [isDig_int] at h
  simp at h
  refine ⟨?_, ?_, ?_⟩
  · rw [isBl_int]; simp; omega
  · rw [u8_beq]; simp; omega
  · rw [isLet_int]; simp; omega

theorem takeWhile_id {pred : UInt8 → Bool} : ∀ {l : List UInt8}, (∀ c ∈ l, pred c = true) → l.takeWhile pred = l
  | [], _ => rfl
  | c :: r, h => by
    have hc := h c (by simp)
    simp [hc, takeWhile_id (l := r) (fun x hx => h x (by simp [hx]))]

theorem tokens_digits {D : List UInt8} (hall : ∀ c ∈ D, isDig c = true) (hne : 1 ≤ D.length) (hlen : D.length ≤ 65536) :
    tokens D = if 10 < D.length ∨ 2147483647 < valD D then .error (22, 0) else .ok [⟨2, D, valD D, 0⟩] := by
  cases D with
  | nil => simp at hne
  | cons c r =>
    obtain ⟨h1, h2, h3⟩ := dig_not (hall c (by simp))
    have hsk : skip (c :: r) = some 0 := skip_other h1 (by rw [h2]; rfl)
    have htw : (c :: r).takeWhile isDig = c :: r := takeWhile_id hall
    have htl : tw isDig (c :: r) = (c :: r).length := by unfold tw; rw [htw]
    have hw := wordOf_num (r := r) h3 (hall c (by simp))
    rw [htl, htw, List.drop_length] at hw
    rw [tokens_short (by omega)]
    by_cases h10 : 10 < (c :: r).length
    · rw [if_pos (.inl h10)]
      rw [if_pos h10] at hw
      exact toksAt_bad hsk rfl hw
    · by_cases hb : 2147483647 < valD (c :: r)
      · rw [if_pos (.inr hb)]
        rw [if_neg h10, if_neg (by simp [letAt]), if_pos hb] at hw
        exact toksAt_bad hsk rfl hw
      · rw [if_neg (by omega)]
        rw [if_neg h10, if_neg (by simp [letAt]), if_neg hb] at hw
        rw [toksAt_word hsk rfl hw, List.drop_length, toksAt_end skip_nil rfl]

/-- The text in the midst of the loop. -/
structure MidN (t : ByteArray) (N i : Nat) : Prop where
  dg : Dg t N
  le : t.size ≤ 10 + i

set_option maxHeartbeats 8000000 in
set_option maxRecDepth 100000 in
theorem LexNumbers_walk (n k : Int) (hn : -9223372036854775808 ≤ n ∧ n ≤ 9223372036854775807) (hk : -9223372036854775808 ≤ k ∧ k ≤ 9223372036854775807) (w : World) (hG : G w) :
    Calls Try.prog 7 #[.int .i64 n, .int .i64 k] w fun e w' => e = .returned (.bool true) ∧ Kept [] w w' := by
  obtain ⟨n1, n2⟩ := hn
  obtain ⟨k1, k2⟩ := hk
  obtain ⟨N, hN, hNb⟩ : ∃ N : Nat, (if n < 0 then -((n + 1).tmod 8589934592) else n.tmod 8589934592) = (N : Int) ∧ N < 10 ^ (9 + 1) := by
    have h3 : (10 : Nat) ^ (9 + 1) = 10000000000 := by decide
    by_cases h : n < 0
    · rw [if_pos h]
      refine ⟨((-(n + 1)) % 8589934592).toNat, ?_, by omega⟩
      rw [← Int.neg_tmod, Int.tmod_eq_emod_of_nonneg (by omega)]; omega
    · rw [if_neg h]
      refine ⟨(n % 8589934592).toNat, ?_, by omega⟩
      rw [Int.tmod_eq_emod_of_nonneg (by omega)]; omega
  obtain ⟨K, hK, hKb⟩ : ∃ K : Nat, (if k < 0 then -((k + 1).tmod 6) else k.tmod 6) = (K : Int) ∧ K < 6 := by
    by_cases h : k < 0
    · rw [if_pos h]
      refine ⟨((-(k + 1)) % 6).toNat, ?_, by omega⟩
      rw [← Int.neg_tmod, Int.tmod_eq_emod_of_nonneg (by omega)]; omega
    · rw [if_neg h]
      refine ⟨(k % 6).toNat, ?_, by omega⟩
      rw [Int.tmod_eq_emod_of_nonneg (by omega)]; omega
  have HT : Hid (∀ w, _) := fun w => told_any 9 N hNb (by omega) w
  have HNb : Hid _ := hNb
  clear hNb
  by_cases hn0 : n < 0
  · rw [if_pos hn0] at hN
    by_cases hk0 : k < 0
    · rw [if_pos hk0] at hK
      go_enter Try.func7, Try.ntmps7
      go_wp2_with (first
        | (go_at_call 9; refine (awake_any _ hG).mono ?_; rintro e w1 ⟨rfl, hka⟩)
        | (go_at_call 14; refine (HT.out _).mono ?_; rintro e w2 ⟨⟨t0, rfl, hd0, hs0⟩, hw⟩; replace hw := hw.symm; subst hw))
      have HD0 : Hid _ := hd0
      clear hd0 n1 n2 k1 k2
      go_loop [6, 7] (fun sv iv => ∃ (i : Nat) (t : ByteArray), i ≤ K ∧ sv = .string t ∧ iv = .int .i64 (i : Int) ∧ MidN t N i)
        (fun _ iv => K - (intOf iv).toNat)
      case atStart => exact ⟨0, t0, Nat.zero_le _, rfl, rfl, HD0.out, by omega⟩
      case round =>
        obtain ⟨i, t, hiK, rfl, rfl, hM⟩ := hrel
        have hsz := hM.le
        have HM : Hid _ := hM
        clear hM
        by_cases hlt : i < K
        · have hlt' : (i : Int) < (K : Int) := by omega
          have hsum : (1 : Int) + (t.size : Int) ≤ 100 := by omega
          go_wp2
          go_round
          case rel => exact ⟨i + 1, _, hlt, rfl, by go_num, dg_zero HM.out.dg, by rw [size_append]; have : (⟨#[48]⟩ : ByteArray).size = 1 := rfl; omega⟩
          case measure => simp [intOf]; omega
        · have hlt' : ¬ (i : Int) < (K : Int) := by omega
          have HGk : Hid (G w1) := hG.kept hka
          have hall := HM.out.dg.all
          have hval := HM.out.dg.val
          have hpos := HM.out.dg.pos
          have HTk : Hid (∀ w, G w → Calls Try.prog 10 #[.string t] w (TokOut 33 w (if 10 < t.size ∨ 2147483647 < N then .error (22, 0) else .ok [⟨2, bytesOf t, N, 0⟩]))) := fun w hG => by
            have h1 := Tokens_any t w hG
            rw [tokens_digits hall (by rw [bytesOf_length]; exact hpos) (by rw [bytesOf_length]; omega), bytesOf_length, hval] at h1
            exact h1
          clear hall hval hpos
          by_cases h10 : 10 < t.size
          · rw [if_pos (.inl h10)] at HTk
            have h10' : (10 : Int) < (t.size : Int) := by omega
            go_wp2_with (first | (go_at_call 10; refine (HTk.out _ HGk.out).mono ?_; rintro e w3 ⟨rfl, hk3⟩))
            go_ret
            exact ⟨rfl, (hka.trans hk3 (by simp)).trans (Kept.alloc [] _ _) (by simp)⟩
          · have h10' : ¬ (10 : Int) < (t.size : Int) := by omega
            by_cases hbig : 2147483647 < N
            · rw [if_pos (.inr hbig)] at HTk
              have hbig' : (2147483647 : Int) < (N : Int) := by omega
              clear hbig
              go_wp2_with (first | (go_at_call 10; refine (HTk.out _ HGk.out).mono ?_; rintro e w3 ⟨rfl, hk3⟩))
              go_ret
              exact ⟨rfl, (hka.trans hk3 (by simp)).trans (Kept.alloc [] _ _) (by simp)⟩
            · rw [if_neg (by omega)] at HTk
              have hbig' : ¬ (2147483647 : Int) < (N : Int) := by omega
              clear hbig
              go_wp2_with (first | (go_at_call 10; refine (HTk.out _ HGk.out).mono ?_; rintro e w3 ⟨v, rfl, hrow, hk3⟩; obtain ⟨g, cap, rfl, _, hg⟩ := hrow.form (by simp); have c0 := row_at hrow 0 (.int .i64 2) rfl; have c1 := row_at hrow 1 (.string t) (by rw [← strL_bytesOf t]; rfl); have c2 := row_at hrow 2 (.int .i64 (N : Int)) rfl; have hln : ([(⟨2, bytesOf t, N, 0⟩ : Tok)]).length = 1 := rfl; rw [hln]))
              go_ret
              exact ⟨rfl, (hka.trans hk3 (by simp)).trans (Kept.alloc [] _ _) (by simp)⟩
    · rw [if_neg hk0] at hK
      go_enter Try.func7, Try.ntmps7
      go_wp2_with (first
        | (go_at_call 9; refine (awake_any _ hG).mono ?_; rintro e w1 ⟨rfl, hka⟩)
        | (go_at_call 14; refine (HT.out _).mono ?_; rintro e w2 ⟨⟨t0, rfl, hd0, hs0⟩, hw⟩; replace hw := hw.symm; subst hw))
      have HD0 : Hid _ := hd0
      clear hd0 n1 n2 k1 k2
      go_loop [6, 7] (fun sv iv => ∃ (i : Nat) (t : ByteArray), i ≤ K ∧ sv = .string t ∧ iv = .int .i64 (i : Int) ∧ MidN t N i)
        (fun _ iv => K - (intOf iv).toNat)
      case atStart => exact ⟨0, t0, Nat.zero_le _, rfl, rfl, HD0.out, by omega⟩
      case round =>
        obtain ⟨i, t, hiK, rfl, rfl, hM⟩ := hrel
        have hsz := hM.le
        have HM : Hid _ := hM
        clear hM
        by_cases hlt : i < K
        · have hlt' : (i : Int) < (K : Int) := by omega
          have hsum : (1 : Int) + (t.size : Int) ≤ 100 := by omega
          go_wp2
          go_round
          case rel => exact ⟨i + 1, _, hlt, rfl, by go_num, dg_zero HM.out.dg, by rw [size_append]; have : (⟨#[48]⟩ : ByteArray).size = 1 := rfl; omega⟩
          case measure => simp [intOf]; omega
        · have hlt' : ¬ (i : Int) < (K : Int) := by omega
          have HGk : Hid (G w1) := hG.kept hka
          have hall := HM.out.dg.all
          have hval := HM.out.dg.val
          have hpos := HM.out.dg.pos
          have HTk : Hid (∀ w, G w → Calls Try.prog 10 #[.string t] w (TokOut 33 w (if 10 < t.size ∨ 2147483647 < N then .error (22, 0) else .ok [⟨2, bytesOf t, N, 0⟩]))) := fun w hG => by
            have h1 := Tokens_any t w hG
            rw [tokens_digits hall (by rw [bytesOf_length]; exact hpos) (by rw [bytesOf_length]; omega), bytesOf_length, hval] at h1
            exact h1
          clear hall hval hpos
          by_cases h10 : 10 < t.size
          · rw [if_pos (.inl h10)] at HTk
            have h10' : (10 : Int) < (t.size : Int) := by omega
            go_wp2_with (first | (go_at_call 10; refine (HTk.out _ HGk.out).mono ?_; rintro e w3 ⟨rfl, hk3⟩))
            go_ret
            exact ⟨rfl, (hka.trans hk3 (by simp)).trans (Kept.alloc [] _ _) (by simp)⟩
          · have h10' : ¬ (10 : Int) < (t.size : Int) := by omega
            by_cases hbig : 2147483647 < N
            · rw [if_pos (.inr hbig)] at HTk
              have hbig' : (2147483647 : Int) < (N : Int) := by omega
              clear hbig
              go_wp2_with (first | (go_at_call 10; refine (HTk.out _ HGk.out).mono ?_; rintro e w3 ⟨rfl, hk3⟩))
              go_ret
              exact ⟨rfl, (hka.trans hk3 (by simp)).trans (Kept.alloc [] _ _) (by simp)⟩
            · rw [if_neg (by omega)] at HTk
              have hbig' : ¬ (2147483647 : Int) < (N : Int) := by omega
              clear hbig
              go_wp2_with (first | (go_at_call 10; refine (HTk.out _ HGk.out).mono ?_; rintro e w3 ⟨v, rfl, hrow, hk3⟩; obtain ⟨g, cap, rfl, _, hg⟩ := hrow.form (by simp); have c0 := row_at hrow 0 (.int .i64 2) rfl; have c1 := row_at hrow 1 (.string t) (by rw [← strL_bytesOf t]; rfl); have c2 := row_at hrow 2 (.int .i64 (N : Int)) rfl; have hln : ([(⟨2, bytesOf t, N, 0⟩ : Tok)]).length = 1 := rfl; rw [hln]))
              go_ret
              exact ⟨rfl, (hka.trans hk3 (by simp)).trans (Kept.alloc [] _ _) (by simp)⟩
  · rw [if_neg hn0] at hN
    by_cases hk0 : k < 0
    · rw [if_pos hk0] at hK
      go_enter Try.func7, Try.ntmps7
      go_wp2_with (first
        | (go_at_call 9; refine (awake_any _ hG).mono ?_; rintro e w1 ⟨rfl, hka⟩)
        | (go_at_call 14; refine (HT.out _).mono ?_; rintro e w2 ⟨⟨t0, rfl, hd0, hs0⟩, hw⟩; replace hw := hw.symm; subst hw))
      have HD0 : Hid _ := hd0
      clear hd0 n1 n2 k1 k2
      go_loop [6, 7] (fun sv iv => ∃ (i : Nat) (t : ByteArray), i ≤ K ∧ sv = .string t ∧ iv = .int .i64 (i : Int) ∧ MidN t N i)
        (fun _ iv => K - (intOf iv).toNat)
      case atStart => exact ⟨0, t0, Nat.zero_le _, rfl, rfl, HD0.out, by omega⟩
      case round =>
        obtain ⟨i, t, hiK, rfl, rfl, hM⟩ := hrel
        have hsz := hM.le
        have HM : Hid _ := hM
        clear hM
        by_cases hlt : i < K
        · have hlt' : (i : Int) < (K : Int) := by omega
          have hsum : (1 : Int) + (t.size : Int) ≤ 100 := by omega
          go_wp2
          go_round
          case rel => exact ⟨i + 1, _, hlt, rfl, by go_num, dg_zero HM.out.dg, by rw [size_append]; have : (⟨#[48]⟩ : ByteArray).size = 1 := rfl; omega⟩
          case measure => simp [intOf]; omega
        · have hlt' : ¬ (i : Int) < (K : Int) := by omega
          have HGk : Hid (G w1) := hG.kept hka
          have hall := HM.out.dg.all
          have hval := HM.out.dg.val
          have hpos := HM.out.dg.pos
          have HTk : Hid (∀ w, G w → Calls Try.prog 10 #[.string t] w (TokOut 33 w (if 10 < t.size ∨ 2147483647 < N then .error (22, 0) else .ok [⟨2, bytesOf t, N, 0⟩]))) := fun w hG => by
            have h1 := Tokens_any t w hG
            rw [tokens_digits hall (by rw [bytesOf_length]; exact hpos) (by rw [bytesOf_length]; omega), bytesOf_length, hval] at h1
            exact h1
          clear hall hval hpos
          by_cases h10 : 10 < t.size
          · rw [if_pos (.inl h10)] at HTk
            have h10' : (10 : Int) < (t.size : Int) := by omega
            go_wp2_with (first | (go_at_call 10; refine (HTk.out _ HGk.out).mono ?_; rintro e w3 ⟨rfl, hk3⟩))
            go_ret
            exact ⟨rfl, (hka.trans hk3 (by simp)).trans (Kept.alloc [] _ _) (by simp)⟩
          · have h10' : ¬ (10 : Int) < (t.size : Int) := by omega
            by_cases hbig : 2147483647 < N
            · rw [if_pos (.inr hbig)] at HTk
              have hbig' : (2147483647 : Int) < (N : Int) := by omega
              clear hbig
              go_wp2_with (first | (go_at_call 10; refine (HTk.out _ HGk.out).mono ?_; rintro e w3 ⟨rfl, hk3⟩))
              go_ret
              exact ⟨rfl, (hka.trans hk3 (by simp)).trans (Kept.alloc [] _ _) (by simp)⟩
            · rw [if_neg (by omega)] at HTk
              have hbig' : ¬ (2147483647 : Int) < (N : Int) := by omega
              clear hbig
              go_wp2_with (first | (go_at_call 10; refine (HTk.out _ HGk.out).mono ?_; rintro e w3 ⟨v, rfl, hrow, hk3⟩; obtain ⟨g, cap, rfl, _, hg⟩ := hrow.form (by simp); have c0 := row_at hrow 0 (.int .i64 2) rfl; have c1 := row_at hrow 1 (.string t) (by rw [← strL_bytesOf t]; rfl); have c2 := row_at hrow 2 (.int .i64 (N : Int)) rfl; have hln : ([(⟨2, bytesOf t, N, 0⟩ : Tok)]).length = 1 := rfl; rw [hln]))
              go_ret
              exact ⟨rfl, (hka.trans hk3 (by simp)).trans (Kept.alloc [] _ _) (by simp)⟩
    · rw [if_neg hk0] at hK
      go_enter Try.func7, Try.ntmps7
      go_wp2_with (first
        | (go_at_call 9; refine (awake_any _ hG).mono ?_; rintro e w1 ⟨rfl, hka⟩)
        | (go_at_call 14; refine (HT.out _).mono ?_; rintro e w2 ⟨⟨t0, rfl, hd0, hs0⟩, hw⟩; replace hw := hw.symm; subst hw))
      have HD0 : Hid _ := hd0
      clear hd0 n1 n2 k1 k2
      go_loop [6, 7] (fun sv iv => ∃ (i : Nat) (t : ByteArray), i ≤ K ∧ sv = .string t ∧ iv = .int .i64 (i : Int) ∧ MidN t N i)
        (fun _ iv => K - (intOf iv).toNat)
      case atStart => exact ⟨0, t0, Nat.zero_le _, rfl, rfl, HD0.out, by omega⟩
      case round =>
        obtain ⟨i, t, hiK, rfl, rfl, hM⟩ := hrel
        have hsz := hM.le
        have HM : Hid _ := hM
        clear hM
        by_cases hlt : i < K
        · have hlt' : (i : Int) < (K : Int) := by omega
          have hsum : (1 : Int) + (t.size : Int) ≤ 100 := by omega
          go_wp2
          go_round
          case rel => exact ⟨i + 1, _, hlt, rfl, by go_num, dg_zero HM.out.dg, by rw [size_append]; have : (⟨#[48]⟩ : ByteArray).size = 1 := rfl; omega⟩
          case measure => simp [intOf]; omega
        · have hlt' : ¬ (i : Int) < (K : Int) := by omega
          have HGk : Hid (G w1) := hG.kept hka
          have hall := HM.out.dg.all
          have hval := HM.out.dg.val
          have hpos := HM.out.dg.pos
          have HTk : Hid (∀ w, G w → Calls Try.prog 10 #[.string t] w (TokOut 33 w (if 10 < t.size ∨ 2147483647 < N then .error (22, 0) else .ok [⟨2, bytesOf t, N, 0⟩]))) := fun w hG => by
            have h1 := Tokens_any t w hG
            rw [tokens_digits hall (by rw [bytesOf_length]; exact hpos) (by rw [bytesOf_length]; omega), bytesOf_length, hval] at h1
            exact h1
          clear hall hval hpos
          by_cases h10 : 10 < t.size
          · rw [if_pos (.inl h10)] at HTk
            have h10' : (10 : Int) < (t.size : Int) := by omega
            go_wp2_with (first | (go_at_call 10; refine (HTk.out _ HGk.out).mono ?_; rintro e w3 ⟨rfl, hk3⟩))
            go_ret
            exact ⟨rfl, (hka.trans hk3 (by simp)).trans (Kept.alloc [] _ _) (by simp)⟩
          · have h10' : ¬ (10 : Int) < (t.size : Int) := by omega
            by_cases hbig : 2147483647 < N
            · rw [if_pos (.inr hbig)] at HTk
              have hbig' : (2147483647 : Int) < (N : Int) := by omega
              clear hbig
              go_wp2_with (first | (go_at_call 10; refine (HTk.out _ HGk.out).mono ?_; rintro e w3 ⟨rfl, hk3⟩))
              go_ret
              exact ⟨rfl, (hka.trans hk3 (by simp)).trans (Kept.alloc [] _ _) (by simp)⟩
            · rw [if_neg (by omega)] at HTk
              have hbig' : ¬ (2147483647 : Int) < (N : Int) := by omega
              clear hbig
              go_wp2_with (first | (go_at_call 10; refine (HTk.out _ HGk.out).mono ?_; rintro e w3 ⟨v, rfl, hrow, hk3⟩; obtain ⟨g, cap, rfl, _, hg⟩ := hrow.form (by simp); have c0 := row_at hrow 0 (.int .i64 2) rfl; have c1 := row_at hrow 1 (.string t) (by rw [← strL_bytesOf t]; rfl); have c2 := row_at hrow 2 (.int .i64 (N : Int)) rfl; have hln : ([(⟨2, bytesOf t, N, 0⟩ : Tok)]).length = 1 := rfl; rw [hln]))
              go_ret
              exact ⟨rfl, (hka.trans hk3 (by simp)).trans (Kept.alloc [] _ _) (by simp)⟩

end Go.Proofs.Ytmaaiahapmplgaa
