/-
  What the tests for reserved words do, of package lex and of its reference.
-/
import Derived.Test.YtmaaiahapmplgaaLKeys
namespace Go.Proofs.Ytmaaiahapmplgaa
open Go.RowKit

set_option maxHeartbeats 8000000 in
set_option maxRecDepth 100000 in
theorem isKeyName_any (s : ByteArray) (w : World) : Calls Try.prog 21 #[.string s] w fun e w' => e = .returned (.bool (decide (s.toList ∈ keyNames))) ∧ w' = w := by
  by_cases h : s.toList ∈ keyNames
  · have HM : Hid (s.toList ∈ keyNames) := h
    simp only [keyNames, List.mem_cons, List.not_mem_nil, or_false] at h
    rcases h with h | h | h | h | h | h | h | h | h | h | h | h | h | h | h | h | h | h | h | h | h | h | h | h | h | h | h | h | h | h | h | h | h | h | h | h | h | h | h | h | h | h | h
    all_goals
      go_enter Try.func21, Try.ntmps21
      go_wp2
      go_ret
      exact ⟨ret_true HM.out, rfl⟩
  · have HM : Hid (¬ s.toList ∈ keyNames) := h
    simp only [keyNames, List.mem_cons, List.not_mem_nil, or_false, not_or, ← ne_eq, ← beq_eq_false_iff_ne] at h
    obtain ⟨h0, h1, h2, h3, h4, h5, h6, h7, h8, h9, h10, h11, h12, h13, h14, h15, h16, h17, h18, h19, h20, h21, h22, h23, h24, h25, h26, h27, h28, h29, h30, h31, h32, h33, h34, h35, h36, h37, h38, h39, h40, h41, h42⟩ := h
    go_enter Try.func21, Try.ntmps21
    go_wp2
    go_ret
    exact ⟨ret_false HM.out, rfl⟩

end Go.Proofs.Ytmaaiahapmplgaa
