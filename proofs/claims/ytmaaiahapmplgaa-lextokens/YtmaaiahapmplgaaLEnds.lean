/-
  What endOf, piece, value do: where the bytes of a word end; a copy; what digits say.
-/
import Derived.Test.YtmaaiahapmplgaaLBase
import Derived.Deep.LoopGhost
namespace Go.Proofs.Ytmaaiahapmplgaa
open Go.RowKit

theorem ret_i64 {a b : Int} (h : a = b) : Ending.returned (.int .i64 a) = .returned (.int .i64 b) := by rw [h]

/-- How many bytes ahead belong to a word. -/
def tw (pred : UInt8 → Bool) (l : List UInt8) : Nat := (l.takeWhile pred).length

theorem tw_yes {pred : UInt8 → Bool} {s : ByteArray} {a : Nat} (h : a < s.size) (hp : pred s[a] = true) : a + tw pred ((bytesOf s).drop a) = (a + 1) + tw pred ((bytesOf s).drop (a + 1)) := by
  rw [drop_at s a h]
  simp [tw, hp]
  omega
theorem tw_no {pred : UInt8 → Bool} {s : ByteArray} {a : Nat} (h : a < s.size) (hp : pred s[a] = false) : a + tw pred ((bytesOf s).drop a) = a := by
  rw [drop_at s a h]
  simp [tw, hp]
theorem tw_end {pred : UInt8 → Bool} {s : ByteArray} : s.size + tw pred ((bytesOf s).drop s.size) = s.size := by
  rw [List.drop_eq_nil_of_le (by rw [bytesOf_length]; exact Nat.le_refl _)]
  simp [tw]

set_option maxHeartbeats 2000000 in
set_option maxRecDepth 100000 in
theorem endOf_name (s : ByteArray) (p : Nat) (hp : p ≤ s.size) (hs : s.size ≤ 65536) (w : World) :
    Calls Try.prog 41 #[.string s, .int .i64 p, .func (Fn.func 42) #[] #[]] w fun e w' => e = .returned (.int .i64 ((p + tw isLD ((bytesOf s).drop p) : Nat) : Int)) ∧ w' = w := by
  have HS : Hid (s.size ≤ 65536) := hs
  clear hs
  go_enter Try.func41, Try.ntmps41
  go_wp2
  go_loop [1] (fun iv => ∃ a : Nat, p ≤ a ∧ a ≤ s.size ∧ iv = .int .i64 (a : Int) ∧ p + tw isLD ((bytesOf s).drop p) = a + tw isLD ((bytesOf s).drop a))
    (fun iv => s.size - (intOf iv).toNat)
  case atStart => exact ⟨p, Nat.le_refl _, hp, rfl, rfl⟩
  case round =>
    obtain ⟨a, hpa, has, rfl, hrel⟩ := hrel
    have HR : Hid _ := hrel
    clear hrel hp
    by_cases hlt : a < s.size
    · have hlt' : (a : Int) < (s.size : Int) := by omega
      have hle' : (a : Int) ≤ 65536 := by have := HS.out; omega
      cases hb : isLD s[a] with
      | true =>
        have HB : Hid _ := hb
        clear hb
        go_wp2_with (first
          | (go_at_call 42; refine (isLoD_any _ _).mono ?_; rintro e w1 ⟨rfl, hw⟩; replace hw := hw.symm; subst hw; rw [HB.out]))
        go_round
        case rel => exact ⟨a + 1, by omega, by omega, by go_num, HR.out.trans (tw_yes hlt HB.out)⟩
        case measure => simp [intOf]; omega
      | false =>
        have HB : Hid _ := hb
        clear hb
        go_wp2_with (first
          | (go_at_call 42; refine (isLoD_any _ _).mono ?_; rintro e w1 ⟨rfl, hw⟩; replace hw := hw.symm; subst hw; rw [HB.out]))
        go_ret
        exact ⟨ret_i64 (by have := HR.out; rw [tw_no hlt HB.out] at this; omega), rfl⟩
    · have hlt' : ¬ (a : Int) < (s.size : Int) := by omega
      have has2 : a = s.size := by omega
      subst has2
      go_wp2
      go_ret
      exact ⟨ret_i64 (by have := HR.out; rw [tw_end] at this; omega), rfl⟩

set_option maxHeartbeats 2000000 in
set_option maxRecDepth 100000 in
theorem endOf_num (s : ByteArray) (p : Nat) (hp : p ≤ s.size) (hs : s.size ≤ 65536) (w : World) :
    Calls Try.prog 41 #[.string s, .int .i64 p, .func (Fn.func 32) #[] #[]] w fun e w' => e = .returned (.int .i64 ((p + tw isDig ((bytesOf s).drop p) : Nat) : Int)) ∧ w' = w := by
  have HS : Hid (s.size ≤ 65536) := hs
  clear hs
  go_enter Try.func41, Try.ntmps41
  go_wp2
  go_loop [1] (fun iv => ∃ a : Nat, p ≤ a ∧ a ≤ s.size ∧ iv = .int .i64 (a : Int) ∧ p + tw isDig ((bytesOf s).drop p) = a + tw isDig ((bytesOf s).drop a))
    (fun iv => s.size - (intOf iv).toNat)
  case atStart => exact ⟨p, Nat.le_refl _, hp, rfl, rfl⟩
  case round =>
    obtain ⟨a, hpa, has, rfl, hrel⟩ := hrel
    have HR : Hid _ := hrel
    clear hrel hp
    by_cases hlt : a < s.size
    · have hlt' : (a : Int) < (s.size : Int) := by omega
      have hle' : (a : Int) ≤ 65536 := by have := HS.out; omega
      cases hb : isDig s[a] with
      | true =>
        have HB : Hid _ := hb
        clear hb
        go_wp2_with (first
          | (go_at_call 32; refine (isDigit_any _ _).mono ?_; rintro e w1 ⟨rfl, hw⟩; replace hw := hw.symm; subst hw; rw [HB.out]))
        go_round
        case rel => exact ⟨a + 1, by omega, by omega, by go_num, HR.out.trans (tw_yes hlt HB.out)⟩
        case measure => simp [intOf]; omega
      | false =>
        have HB : Hid _ := hb
        clear hb
        go_wp2_with (first
          | (go_at_call 32; refine (isDigit_any _ _).mono ?_; rintro e w1 ⟨rfl, hw⟩; replace hw := hw.symm; subst hw; rw [HB.out]))
        go_ret
        exact ⟨ret_i64 (by have := HR.out; rw [tw_no hlt HB.out] at this; omega), rfl⟩
    · have hlt' : ¬ (a : Int) < (s.size : Int) := by omega
      have has2 : a = s.size := by omega
      subst has2
      go_wp2
      go_ret
      exact ⟨ret_i64 (by have := HR.out; rw [tw_end] at this; omega), rfl⟩

set_option maxHeartbeats 400000 in
theorem piece_any (s : ByteArray) (a b : Nat) (hab : a ≤ b) (hb : b ≤ s.size) (hs : s.size ≤ 65536) (w : World) :
    Calls Try.prog 43 #[.string s, .int .i64 a, .int .i64 b] w fun e w' => e = .returned (.string (s.extract a b)) ∧ Kept [] w w' := by
  have h0 : (0 : Int) ≤ (a : Int) := by omega
  have h1 : (a : Int) ≤ (b : Int) := by omega
  have h2 : (b : Int) ≤ (s.size : Int) := by omega
  have HC : Hid (∀ w, _) := fun w => Clone_any (s.extract a b) w (by simp; omega)
  go_enter Try.func43, Try.ntmps43
  go_wp2_with (first
    | (go_at_call 50; refine (HC.out _).mono ?_; rintro e w1 ⟨rfl, hk⟩))
  go_ret
  exact ⟨rfl, hk⟩

theorem valD_snoc (l : List UInt8) (c : UInt8) : valD (l ++ [c]) = valD l * 10 + (c.toNat - 48) := by simp [valD, List.foldl_append]

theorem valD_acc : ∀ (l : List UInt8) (acc : Nat), (∀ c ∈ l, isDig c = true) → l.foldl (fun n c => n * 10 + (c.toNat - 48)) acc < (acc + 1) * 10 ^ l.length
  | [], acc, _ => by simp
  | c :: r, acc, h => by
    have h2 := h c (by simp)
    rw [isDig_int] at h2
    simp at h2
    have ih := valD_acc r (acc * 10 + (c.toNat - 48)) (fun x hx => h x (by simp [hx]))
    rw [List.foldl_cons, List.length_cons, Nat.pow_succ]
    refine Nat.lt_of_lt_of_le ih ?_
    rw [Nat.mul_comm (10 ^ r.length) 10, ← Nat.mul_assoc]
    exact Nat.mul_le_mul_right _ (by omega)

theorem valD_lt (l : List UInt8) (h : ∀ c ∈ l, isDig c = true) : valD l < 10 ^ l.length := by
  have := valD_acc l 0 h
  simpa [valD] using this

theorem at_mem (s : ByteArray) (i : Nat) (h : i < s.size) : s[i] ∈ bytesOf s := by
  have e : (bytesOf s)[i]'(by rw [bytesOf_length]; exact h) = s[i] := by simp [bytesOf]; rfl
  rw [← e]
  exact List.getElem_mem _

theorem take_snoc (s : ByteArray) (i : Nat) (h : i < s.size) : (bytesOf s).take (i + 1) = (bytesOf s).take i ++ [s[i]] := by
  rw [List.take_add_one, List.getElem?_eq_getElem (by rw [bytesOf_length]; exact h)]
  simp [bytesOf]; rfl

set_option maxHeartbeats 2000000 in
set_option maxRecDepth 100000 in
theorem value_any (s : ByteArray) (hd : ∀ c ∈ bytesOf s, isDig c = true) (hs : s.size ≤ 10) (w : World) :
    Calls Try.prog 44 #[.string s] w fun e w' => e = .returned (.int .i64 (valD (bytesOf s) : Int)) ∧ w' = w := by
  have HD : Hid _ := hd
  clear hd
  go_enter Try.func44, Try.ntmps44
  go_wp2
  go_loop [3, 7] (fun nv iv => ∃ (i n : Nat), i ≤ s.size ∧ n = valD ((bytesOf s).take i) ∧ nv = .int .i64 (n : Int) ∧ iv = .int .i64 (i : Int))
    (fun _ iv => s.size - (intOf iv).toNat)
  case atStart => exact ⟨0, 0, Nat.zero_le _, rfl, rfl, rfl⟩
  case round =>
    obtain ⟨i, n, his, hn, rfl, rfl⟩ := hrel
    have hb : n < 10 ^ i := by
      rw [hn]
      have h1 := valD_lt ((bytesOf s).take i) (fun c hc => HD.out c (List.mem_of_mem_take hc))
      rw [List.length_take, bytesOf_length, Nat.min_eq_left his] at h1
      exact h1
    have HN : Hid _ := hn
    clear hn
    by_cases hlt : i < s.size
    · have hlt' : (i : Int) < (s.size : Int) := by omega
      have hdg := HD.out s[i] (at_mem s i hlt)
      rw [isDig_int] at hdg
      simp at hdg
      obtain ⟨h48, h57⟩ := hdg
      have hn10 : (n : Int) < 1000000000 := by
        have h1 : (10 : Nat) ^ i ≤ 10 ^ 9 := Nat.pow_le_pow_right (by decide) (by omega)
        have h2 : (10 : Nat) ^ 9 = 1000000000 := by decide
        omega
      clear hb
      go_wp2
      go_round
      case rel => exact ⟨i + 1, n * 10 + (s[i].toNat - 48), hlt, by rw [take_snoc s i hlt, valD_snoc, ← HN.out], by congr 1; omega, by go_num⟩
      case measure => simp [intOf]; omega
    · have hlt' : ¬ (i : Int) < (s.size : Int) := by omega
      clear hb
      go_wp2
      go_ret
      refine ⟨ret_i64 ?_, rfl⟩
      rw [HN.out, List.take_of_length_le (by rw [bytesOf_length]; omega)]

end Go.Proofs.Ytmaaiahapmplgaa
