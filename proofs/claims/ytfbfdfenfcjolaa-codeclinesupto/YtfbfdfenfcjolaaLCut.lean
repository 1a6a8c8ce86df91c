/-
  What strings.Cut does at a line's end.
-/
import Derived.Test.YtfbfdfenfcjolaaLns
namespace Go.Proofs.Ytfbfdfenfcjolaa
open Go.RowKit

theorem ret_cut {a a' b b' : ByteArray} {c c' : Bool} (ha : a = a') (hb : b = b') (hc : c = c') :
    Ending.returned (.tuple #[.string a, .string b, .bool c]) = .returned (.tuple #[.string a', .string b', .bool c']) := by rw [ha, hb, hc]

set_option maxHeartbeats 1000000 in
theorem sCut_any (s : ByteArray) (w : World) (hs : s.size ≤ 140737488355328) :
    Calls Try.prog 54 #[.string s, .string ⟨#[10]⟩] w fun e w' => e = .returned (.tuple #[.string (strL (headLn (bytesOf s))), .string (strL (tailLn (bytesOf s))), .bool (hasLF s)]) ∧ ∃ n, w' = w.drewN n := by
  have hge := Lib.indexByte_ge s.data.toList 10
  by_cases hi : Lib.indexByte s.data.toList 10 = -1
  · obtain ⟨h1, h2⟩ := index_none (l := bytesOf s) (Lib.indexByte_none hi)
    have HL : Hid (hasLF s = false) := (index_lf s).symm.trans (by rw [hi]; rfl)
    have H1 : Hid (strL (headLn (bytesOf s)) = s) := by show _ = _; rw [h1, strL_bytesOf]
    have H2 : Hid (strL (tailLn (bytesOf s)) = ⟨#[]⟩) := by show _ = _; rw [h2]; rfl
    clear h1 h2 hge
    go_enter Try.func54, Try.ntmps54
    go_wp2_with (first
      | (go_at_call 56; refine (Try.stringslite_Index_one s 10 _).mono ?_; rintro e w1 ⟨rfl, hw⟩; replace hw := hw.symm; subst hw; rw [hi]))
    go_ret3
    exact ⟨ret_cut H1.out.symm H2.out.symm HL.out.symm, 0, rfl⟩
  · obtain ⟨o, ho⟩ : ∃ o : Nat, Lib.indexByte s.data.toList 10 = (o : Int) := ⟨(Lib.indexByte s.data.toList 10).toNat, by omega⟩
    obtain ⟨h1, h2, h3⟩ := index_some (l := bytesOf s) ho
    have HL : Hid (hasLF s = true) := (index_lf s).symm.trans (by rw [ho]; simp)
    rw [bytesOf_length] at h3
    have H1 : Hid (strL (headLn (bytesOf s)) = s.extract 0 o) := by show _ = _; rw [h1, extract_eq]; rfl
    have H2 : Hid (strL (tailLn (bytesOf s)) = s.extract (o + 1) s.size) := by
      show _ = _
      rw [h2, extract_eq, List.take_of_length_le (by rw [bytesOf_length]; exact Nat.le_refl _)]
    clear h1 h2 hge hi
    have i1 : (0 : Int) ≤ (o : Int) := by omega
    have i2 : (o : Int) < (s.size : Int) := by omega
    go_enter Try.func54, Try.ntmps54
    go_wp2_with (first
      | (go_at_call 56; refine (Try.stringslite_Index_one s 10 _).mono ?_; rintro e w1 ⟨rfl, hw⟩; replace hw := hw.symm; subst hw; rw [ho]))
    go_quiet (fail)
    go_wp2
    go_ret3
    refine ⟨ret_cut ?_ ?_ HL.out.symm, _, rfl⟩
    · rw [H1.out]
    · rw [H2.out]

set_option maxHeartbeats 400000 in
theorem Cut_any (s : ByteArray) (w : World) (hs : s.size ≤ 140737488355328) :
    Calls Try.prog 47 #[.string s, .string ⟨#[10]⟩] w fun e w' => e = .returned (.tuple #[.string (strL (headLn (bytesOf s))), .string (strL (tailLn (bytesOf s))), .bool (hasLF s)]) ∧ ∃ n, w' = w.drewN n := by
  have HC : Hid (∀ w, _) := fun w => sCut_any s w hs
  go_enter Try.func47, Try.ntmps47
  go_wp2_with (first
    | (go_at_call 54; refine (HC.out _).mono ?_; rintro e w1 ⟨rfl, n, rfl⟩))
  go_ret3
  exact ⟨rfl, _, rfl⟩

end Go.Proofs.Ytfbfdfenfcjolaa
