/-
  Digits: what told writes; the words of a text of digits.
-/
import Derived.Test.YtmaaiahapmplgaaLAwake
namespace Go.Proofs.Ytmaaiahapmplgaa
open Go.RowKit

/-- A text of digits that says n. -/
structure Dg (t : ByteArray) (n : Nat) : Prop where
  all : ∀ c ∈ bytesOf t, isDig c = true
  val : valD (bytesOf t) = n
  pos : 1 ≤ t.size

theorem digit_text (n : Nat) (h : n < 10) : Dg ((⟨#[48, 49, 50, 51, 52, 53, 54, 55, 56, 57]⟩ : ByteArray).extract n (n + 1)) n ∧ ((⟨#[48, 49, 50, 51, 52, 53, 54, 55, 56, 57]⟩ : ByteArray).extract n (n + 1)).size = 1 := by
  have hb : bytesOf ((⟨#[48, 49, 50, 51, 52, 53, 54, 55, 56, 57]⟩ : ByteArray).extract n (n + 1)) = [UInt8.ofNat (48 + n)] := by
    rw [bytes_extract]
    have : ∀ m : Fin 10, ((bytesOf ⟨#[48, 49, 50, 51, 52, 53, 54, 55, 56, 57]⟩).take (m.val + 1)).drop m.val = [UInt8.ofNat (48 + m.val)] := by decide
    exact this ⟨n, h⟩
  have hd : ∀ m : Fin 10, isDig (UInt8.ofNat (48 + m.val)) = true ∧ valD [UInt8.ofNat (48 + m.val)] = m.val := by decide
  have hs : ((⟨#[48, 49, 50, 51, 52, 53, 54, 55, 56, 57]⟩ : ByteArray).extract n (n + 1)).size = 1 := by rw [← bytesOf_length, hb]; rfl
  refine ⟨⟨?_, ?_, by omega⟩, hs⟩
  · rw [hb]; intro c hc; rw [List.mem_singleton] at hc; subst hc; exact (hd ⟨n, h⟩).1
  · rw [hb]; exact (hd ⟨n, h⟩).2

theorem bytes_append (a b : ByteArray) : bytesOf (a ++ b) = bytesOf a ++ bytesOf b := by simp [bytesOf]
theorem size_append (a b : ByteArray) : (a ++ b).size = a.size + b.size := by rw [← bytesOf_length, bytes_append, List.length_append, bytesOf_length, bytesOf_length]

theorem valD_append (l m : List UInt8) : valD (l ++ m) = m.foldl (fun n c => n * 10 + (c.toNat - 48)) (valD l) := by simp [valD, List.foldl_append]

theorem dg_append {a b : ByteArray} {n d : Nat} (ha : Dg a n) (hb : Dg b d) (h1 : b.size = 1) : Dg (a ++ b) (n * 10 + d) := by
  have hl : (bytesOf b).length = 1 := by rw [bytesOf_length]; exact h1
  obtain ⟨c, hc⟩ : ∃ c, bytesOf b = [c] := by
    match bytesOf b, hl with
    | [c], _ => exact ⟨c, rfl⟩
  refine ⟨fun x hx => ?_, ?_, by rw [size_append]; have := ha.pos; omega⟩
  · rw [bytes_append] at hx
    rcases List.mem_append.1 hx with h | h
    · exact ha.all x h
    · exact hb.all x h
  · have hv := hb.val
    rw [hc] at hv
    rw [bytes_append, hc, valD_snoc, ha.val]
    simp [valD] at hv
    rw [hv]

theorem dg_zero {t : ByteArray} {n : Nat} (h : Dg t n) : Dg (⟨#[48]⟩ ++ t) n := by
  refine ⟨fun x hx => ?_, ?_, by rw [size_append]; have := h.pos; omega⟩
  · rw [bytes_append] at hx
    rcases List.mem_append.1 hx with h1 | h1
    · have : x = 48 := by simpa [bytesOf] using h1
      subst this; decide
    · exact h.all x h1
  · rw [bytes_append, show bytesOf ⟨#[48]⟩ = [48] from rfl]
    have : valD ([48] ++ bytesOf t) = valD (bytesOf t) := by simp [valD]
    rw [this, h.val]

set_option maxHeartbeats 2000000 in
theorem told_small (n : Nat) (h : n < 10) (w : World) : Calls Try.prog 14 #[.int .i64 (n : Int)] w fun e w' => (∃ t, e = .returned (.string t) ∧ Dg t n ∧ t.size = 1) ∧ w' = w := by
  have h1 : (n : Int) < 10 := by omega
  have h0 : (0 : Int) ≤ (n : Int) := by omega
  have HD : Hid _ := digit_text n h
  go_enter Try.func14, Try.ntmps14
  go_wp2
  go_ret
  exact ⟨⟨_, rfl, HD.out.1, HD.out.2⟩, rfl⟩

set_option maxHeartbeats 2000000 in
theorem told_any : ∀ (k n : Nat), n < 10 ^ (k + 1) → k ≤ 12 → ∀ (w : World), Calls Try.prog 14 #[.int .i64 (n : Int)] w fun e w' => (∃ t, e = .returned (.string t) ∧ Dg t n ∧ t.size ≤ k + 1) ∧ w' = w := by
  intro k
  induction k with
  | zero => intro n h _ w; exact (told_small n (by simpa using h) w).mono fun e w' ⟨⟨t, he, hd, hs⟩, hw⟩ => ⟨⟨t, he, hd, by omega⟩, hw⟩
  | succ k ih =>
    intro n h hk w
    by_cases h10 : n < 10
    · exact (told_small n h10 w).mono fun e w' ⟨⟨t, he, hd, hs⟩, hw⟩ => ⟨⟨t, he, hd, by omega⟩, hw⟩
    · have h1 : ¬ (n : Int) < 10 := by omega
      have HI : Hid (∀ w, _) := fun w => ih (n / 10) (by rw [Nat.div_lt_iff_lt_mul (by decide)]; rw [Nat.pow_succ] at h; exact h) (by omega) w
      have HS : Hid (∀ w, _) := fun w => told_small (n % 10) (by omega) w
      have hq : (n : Int).tdiv 10 = ((n / 10 : Nat) : Int) := by rw [Int.tdiv_eq_ediv_of_nonneg (by omega)]; omega
      have hr : (n : Int).tmod 10 = ((n % 10 : Nat) : Int) := by rw [Int.tmod_eq_emod_of_nonneg (by omega)]; omega
      have HE : Hid (n / 10 * 10 + n % 10 = n) := by show _ = _; omega
      have hkk : k ≤ 12 := by omega
      obtain ⟨q, hqe⟩ : ∃ q, n / 10 = q := ⟨_, rfl⟩
      obtain ⟨r, hre⟩ : ∃ r, n % 10 = r := ⟨_, rfl⟩
      rw [hqe] at HI hq HE
      rw [hre] at HS hr HE
      have hqb : (q : Int) < 100000000000000 := by
        have h2 : (10 : Nat) ^ (k + 1 + 1) ≤ 10 ^ 14 := Nat.pow_le_pow_right (by decide) (by omega)
        have h3 : (10 : Nat) ^ 14 = 100000000000000 := by decide
        omega
      clear ih h hk hqe hre
      go_enter Try.func14, Try.ntmps14
      go_wp2_with fail
      refine (HI.out _).mono ?_
      rintro e w1 ⟨⟨t1, rfl, hd1, hs1⟩, rfl⟩
      have HD1 : Hid _ := hd1
      clear hd1
      go_wp2_with fail
      refine (HS.out _).mono ?_
      rintro e w2 ⟨⟨t2, rfl, hd2, hs2⟩, rfl⟩
      have HD2 : Hid _ := hd2
      have hsum : (t1.size : Int) + (t2.size : Int) ≤ 100 := by omega
      clear hd2
      go_wp2_with fail
      go_ret
      exact ⟨⟨_, rfl, by have := dg_append HD1.out HD2.out hs2; rw [HE.out] at this; exact this, by rw [size_append]; omega⟩, rfl⟩

end Go.Proofs.Ytmaaiahapmplgaa
