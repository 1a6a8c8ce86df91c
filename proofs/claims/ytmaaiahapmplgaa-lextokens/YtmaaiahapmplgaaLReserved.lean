/-
  What Reserved does, of package lex and of its reference; the statement sextantlaw02.LexReserved, walked.
-/
import Derived.Test.YtmaaiahapmplgaaLAwake
import Derived.Test.YtmaaiahapmplgaaLKeys3
namespace Go.Proofs.Ytmaaiahapmplgaa
open Go.RowKit

/-- A reserved word of one sign, by its byte. -/
def isSg (c : UInt8) : Bool := decide ([c] ∈ signs)

theorem isSg_int (c : UInt8) : isSg c = true ↔ ((c.toNat : Int) = 123 ∨ (c.toNat : Int) = 125 ∨ (c.toNat : Int) = 40 ∨ (c.toNat : Int) = 41 ∨ (c.toNat : Int) = 91 ∨ (c.toNat : Int) = 93 ∨ (c.toNat : Int) = 59 ∨ (c.toNat : Int) = 44 ∨ (c.toNat : Int) = 58 ∨ (c.toNat : Int) = 46 ∨ (c.toNat : Int) = 33 ∨ (c.toNat : Int) = 63 ∨ (c.toNat : Int) = 61 ∨ (c.toNat : Int) = 60 ∨ (c.toNat : Int) = 62 ∨ (c.toNat : Int) = 43 ∨ (c.toNat : Int) = 45 ∨ (c.toNat : Int) = 42 ∨ (c.toNat : Int) = 47 ∨ (c.toNat : Int) = 37 ∨ (c.toNat : Int) = 38 ∨ (c.toNat : Int) = 124 ∨ (c.toNat : Int) = 94 ∨ (c.toNat : Int) = 126 ∨ (c.toNat : Int) = 64) := by
  have e : ∀ d : UInt8, c = d ↔ (c.toNat : Int) = (d.toNat : Int) := fun d => by rw [← UInt8.toNat_inj]; omega
  unfold isSg signs
  simp only [decide_eq_true_eq, List.mem_cons, List.not_mem_nil, or_false, List.cons.injEq, and_true, e]
  rfl

set_option maxHeartbeats 8000000 in
set_option maxRecDepth 100000 in
theorem one_any (c : UInt8) (w : World) : Calls Try.prog 26 #[.int .u8 (c.toNat : Int)] w fun e w' => e = .returned (.bool (isSg c)) ∧ w' = w := by
  cases h : isSg c with
  | true =>
    have h2 := (isSg_int c).1 h
    clear h
    rcases h2 with h | h | h | h | h | h | h | h | h | h | h | h | h | h | h | h | h | h | h | h | h | h | h | h | h
    all_goals
      go_enter Try.func26, Try.ntmps26
      go_wp2
      go_ret
      exact ⟨rfl, rfl⟩
  | false =>
    have h2 : ¬ ((c.toNat : Int) = 123 ∨ (c.toNat : Int) = 125 ∨ (c.toNat : Int) = 40 ∨ (c.toNat : Int) = 41 ∨ (c.toNat : Int) = 91 ∨ (c.toNat : Int) = 93 ∨ (c.toNat : Int) = 59 ∨ (c.toNat : Int) = 44 ∨ (c.toNat : Int) = 58 ∨ (c.toNat : Int) = 46 ∨ (c.toNat : Int) = 33 ∨ (c.toNat : Int) = 63 ∨ (c.toNat : Int) = 61 ∨ (c.toNat : Int) = 60 ∨ (c.toNat : Int) = 62 ∨ (c.toNat : Int) = 43 ∨ (c.toNat : Int) = 45 ∨ (c.toNat : Int) = 42 ∨ (c.toNat : Int) = 47 ∨ (c.toNat : Int) = 37 ∨ (c.toNat : Int) = 38 ∨ (c.toNat : Int) = 124 ∨ (c.toNat : Int) = 94 ∨ (c.toNat : Int) = 126 ∨ (c.toNat : Int) = 64) := fun hh => by rw [(isSg_int c).2 hh] at h; cases h
    clear h
    simp only [not_or] at h2
    obtain ⟨h0, h1, h2, h3, h4, h5, h6, h7, h8, h9, h10, h11, h12, h13, h14, h15, h16, h17, h18, h19, h20, h21, h22, h23, h24⟩ := h2
    go_enter Try.func26, Try.ntmps26
    go_wp2
    go_ret
    exact ⟨rfl, rfl⟩

/-- P2.2 -/
def resv (l : List UInt8) : Bool := decide (l ∈ keyNames) || decide (l ∈ pairs) || decide (l ∈ signs)

set_option maxHeartbeats 2000000 in
theorem Reserved_any (s : ByteArray) (w : World) : Calls Try.prog 12 #[.string s] w fun e w' => e = .returned (.bool (resv (bytesOf s))) ∧ w' = w := by
  have HK : Hid (∀ w, _) := fun w => isKeyName_any s w
  have HP : Hid (∀ w, _) := fun w => isPair_any s w
  have HS : Hid (∀ w, _) := fun w => isSign_any s w
  rw [toList_bytes] at HK HP HS
  unfold resv
  obtain ⟨bk, hbk⟩ : ∃ b, decide (bytesOf s ∈ keyNames) = b := ⟨_, rfl⟩
  obtain ⟨bp, hbp⟩ : ∃ b, decide (bytesOf s ∈ pairs) = b := ⟨_, rfl⟩
  rw [hbk] at HK ⊢
  rw [hbp] at HP ⊢
  clear hbk hbp
  cases bk with
  | true =>
    go_enter Try.func12, Try.ntmps12
    go_wp2_with (first
      | (go_at_call 21; refine (HK.out _).mono ?_; rintro e w1 ⟨rfl, rfl⟩))
    go_ret
    exact ⟨rfl, rfl⟩
  | false =>
    cases bp with
    | true =>
      go_enter Try.func12, Try.ntmps12
      go_wp2_with (first
        | (go_at_call 21; refine (HK.out _).mono ?_; rintro e w1 ⟨rfl, rfl⟩)
        | (go_at_call 22; refine (HP.out _).mono ?_; rintro e w1 ⟨rfl, rfl⟩))
      go_ret
      exact ⟨rfl, rfl⟩
    | false =>
      go_enter Try.func12, Try.ntmps12
      go_wp2_with (first
        | (go_at_call 21; refine (HK.out _).mono ?_; rintro e w1 ⟨rfl, rfl⟩)
        | (go_at_call 22; refine (HP.out _).mono ?_; rintro e w1 ⟨rfl, rfl⟩)
        | (go_at_call 23; refine (HS.out _).mono ?_; rintro e w1 ⟨rfl, rfl⟩))
      go_ret
      exact ⟨by simp, rfl⟩

theorem signs_one : ∀ {l : List UInt8}, l ∈ signs → l.length = 1 := by decide

set_option maxHeartbeats 2000000 in
theorem rReserved_any (s : ByteArray) (w : World) : Calls Try.prog 13 #[.string s] w fun e w' => e = .returned (.bool (resv (bytesOf s))) ∧ w' = w := by
  have HK : Hid (∀ w, _) := fun w => name_any s w
  have HP : Hid (∀ w, _) := fun w => two_any s w
  rw [toList_bytes] at HK HP
  unfold resv
  obtain ⟨bk, hbk⟩ : ∃ b, decide (bytesOf s ∈ keyNames) = b := ⟨_, rfl⟩
  obtain ⟨bp, hbp⟩ : ∃ b, decide (bytesOf s ∈ pairs) = b := ⟨_, rfl⟩
  rw [hbk] at HK ⊢
  rw [hbp] at HP ⊢
  clear hbk hbp
  cases bk with
  | true =>
    cases bp
    all_goals
      go_enter Try.func13, Try.ntmps13
      go_wp2_with (first
        | (go_at_call 24; refine (HK.out _).mono ?_; rintro e w1 ⟨rfl, rfl⟩)
        | (go_at_call 25; refine (HP.out _).mono ?_; rintro e w1 ⟨rfl, rfl⟩))
      go_ret
      exact ⟨rfl, rfl⟩
  | false =>
    cases bp with
    | true =>
      go_enter Try.func13, Try.ntmps13
      go_wp2_with (first
        | (go_at_call 24; refine (HK.out _).mono ?_; rintro e w1 ⟨rfl, rfl⟩)
        | (go_at_call 25; refine (HP.out _).mono ?_; rintro e w1 ⟨rfl, rfl⟩))
      go_ret
      exact ⟨rfl, rfl⟩
    | false =>
      by_cases h1 : s.size = 1
      · have h1' : (s.size : Int) = 1 := by omega
        have h0 : 0 < s.size := by omega
        have hb : decide (bytesOf s ∈ signs) = isSg s[0] := by
          have := drop_at s 0 h0
          rw [List.drop_zero, List.drop_eq_nil_of_le (by rw [bytesOf_length]; omega)] at this
          rw [this]; rfl
        rw [hb]
        have HO : Hid (∀ w, _) := fun w => one_any s[0] w
        clear hb
        go_enter Try.func13, Try.ntmps13
        go_wp2_with (first
          | (go_at_call 24; refine (HK.out _).mono ?_; rintro e w1 ⟨rfl, rfl⟩)
          | (go_at_call 25; refine (HP.out _).mono ?_; rintro e w1 ⟨rfl, rfl⟩)
          | (go_at_call 26; refine (HO.out _).mono ?_; rintro e w1 ⟨rfl, rfl⟩))
        go_ret
        exact ⟨by simp, rfl⟩
      · have h1' : ¬ (s.size : Int) = 1 := by omega
        have hb : decide (bytesOf s ∈ signs) = false := decide_eq_false (fun h => h1 (by rw [← bytesOf_length]; exact signs_one h))
        rw [hb]
        go_enter Try.func13, Try.ntmps13
        go_wp2_with (first
          | (go_at_call 24; refine (HK.out _).mono ?_; rintro e w1 ⟨rfl, rfl⟩)
          | (go_at_call 25; refine (HP.out _).mono ?_; rintro e w1 ⟨rfl, rfl⟩))
        go_ret
        exact ⟨rfl, rfl⟩

set_option maxHeartbeats 2000000 in
theorem LexReserved_walk (s : ByteArray) (w : World) (hG : G w) : Calls Try.prog 4 #[.string s] w fun e w' => e = .returned (.bool true) ∧ Kept [] w w' := by
  go_enter Try.func4, Try.ntmps4
  go_wp2_with (first
    | (go_at_call 9; refine (awake_any _ hG).mono ?_; rintro e w1 ⟨rfl, hk⟩)
    | (go_at_call 12; refine (Reserved_any _ _).mono ?_; rintro e w2 ⟨rfl, hw⟩; replace hw := hw.symm; subst hw)
    | (go_at_call 13; refine (rReserved_any _ _).mono ?_; rintro e w2 ⟨rfl, hw⟩; replace hw := hw.symm; subst hw))
  go_ret
  exact ⟨by simp, hk⟩

end Go.Proofs.Ytmaaiahapmplgaa
