/-
  What the tests for reserved words do, of package lex and of its reference.
-/
import Derived.Test.YtmaaiahapmplgaaLSmall
namespace Go.Proofs.Ytmaaiahapmplgaa
open Go.RowKit

theorem ret_true {l : List UInt8} {L : List (List UInt8)} (h : l ∈ L) : Ending.returned (.bool true) = .returned (.bool (decide (l ∈ L))) := by rw [decide_eq_true h]
theorem ret_false {l : List UInt8} {L : List (List UInt8)} (h : ¬ l ∈ L) : Ending.returned (.bool false) = .returned (.bool (decide (l ∈ L))) := by rw [decide_eq_false h]

set_option maxHeartbeats 8000000 in
set_option maxRecDepth 100000 in
theorem isPair_any (s : ByteArray) (w : World) : Calls Try.prog 22 #[.string s] w fun e w' => e = .returned (.bool (decide (s.toList ∈ pairs))) ∧ w' = w := by
  by_cases h : s.toList ∈ pairs
  · have HM : Hid (s.toList ∈ pairs) := h
    simp only [pairs, List.mem_cons, List.not_mem_nil, or_false] at h
    rcases h with h | h | h | h | h | h | h | h | h | h | h | h | h | h
    all_goals
      go_enter Try.func22, Try.ntmps22
      go_wp2
      go_ret
      exact ⟨ret_true HM.out, rfl⟩
  · have HM : Hid (¬ s.toList ∈ pairs) := h
    simp only [pairs, List.mem_cons, List.not_mem_nil, or_false, not_or, ← ne_eq, ← beq_eq_false_iff_ne] at h
    obtain ⟨h0, h1, h2, h3, h4, h5, h6, h7, h8, h9, h10, h11, h12, h13⟩ := h
    go_enter Try.func22, Try.ntmps22
    go_wp2
    go_ret
    exact ⟨ret_false HM.out, rfl⟩

set_option maxHeartbeats 8000000 in
set_option maxRecDepth 100000 in
theorem two_any (s : ByteArray) (w : World) : Calls Try.prog 25 #[.string s] w fun e w' => e = .returned (.bool (decide (s.toList ∈ pairs))) ∧ w' = w := by
  by_cases h : s.toList ∈ pairs
  · have HM : Hid (s.toList ∈ pairs) := h
    simp only [pairs, List.mem_cons, List.not_mem_nil, or_false] at h
    rcases h with h | h | h | h | h | h | h | h | h | h | h | h | h | h
    all_goals
      go_enter Try.func25, Try.ntmps25
      go_wp2
      go_ret
      exact ⟨ret_true HM.out, rfl⟩
  · have HM : Hid (¬ s.toList ∈ pairs) := h
    simp only [pairs, List.mem_cons, List.not_mem_nil, or_false, not_or, ← ne_eq, ← beq_eq_false_iff_ne] at h
    obtain ⟨h0, h1, h2, h3, h4, h5, h6, h7, h8, h9, h10, h11, h12, h13⟩ := h
    go_enter Try.func25, Try.ntmps25
    go_wp2
    go_ret
    exact ⟨ret_false HM.out, rfl⟩

set_option maxHeartbeats 8000000 in
set_option maxRecDepth 100000 in
theorem isSign_any (s : ByteArray) (w : World) : Calls Try.prog 23 #[.string s] w fun e w' => e = .returned (.bool (decide (s.toList ∈ signs))) ∧ w' = w := by
  by_cases h : s.toList ∈ signs
  · have HM : Hid (s.toList ∈ signs) := h
    simp only [signs, List.mem_cons, List.not_mem_nil, or_false] at h
    rcases h with h | h | h | h | h | h | h | h | h | h | h | h | h | h | h | h | h | h | h | h | h | h | h | h | h
    all_goals
      go_enter Try.func23, Try.ntmps23
      go_wp2
      go_ret
      exact ⟨ret_true HM.out, rfl⟩
  · have HM : Hid (¬ s.toList ∈ signs) := h
    simp only [signs, List.mem_cons, List.not_mem_nil, or_false, not_or, ← ne_eq, ← beq_eq_false_iff_ne] at h
    obtain ⟨h0, h1, h2, h3, h4, h5, h6, h7, h8, h9, h10, h11, h12, h13, h14, h15, h16, h17, h18, h19, h20, h21, h22, h23, h24⟩ := h
    go_enter Try.func23, Try.ntmps23
    go_wp2
    go_ret
    exact ⟨ret_false HM.out, rfl⟩

end Go.Proofs.Ytmaaiahapmplgaa
