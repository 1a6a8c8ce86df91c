/-
  What readName does.
-/
import Derived.Test.YtmaaiahapmplgaaLWordV
import Derived.Test.YtmaaiahapmplgaaLKeys2
namespace Go.Proofs.Ytmaaiahapmplgaa
open Go.RowKit

theorem wordOf_name {c : UInt8} {r : List UInt8} (h : isLet c = true) : wordOf c r = if 32 < tw isLD (c :: r) then .error (22, 0) else .ok (if (c :: r).takeWhile isLD ∈ keyNames then 4 else 1, (c :: r).takeWhile isLD, 0, tw isLD (c :: r)) := by
  unfold wordOf; rw [if_pos h]; rfl

theorem take_tw (pred : UInt8 → Bool) (l : List UInt8) : l.take (tw pred l) = l.takeWhile pred := by
  unfold tw
  induction l with
  | nil => rfl
  | cons c r ih =>
    by_cases h : pred c = true
    · simp [h, ih]
    · simp [h]

theorem piece_tw (s : ByteArray) (p : Nat) (pred : UInt8 → Bool) : s.extract p (p + tw pred ((bytesOf s).drop p)) = strL (((bytesOf s).drop p).takeWhile pred) := by
  rw [extract_eq, ← take_tw, List.drop_take, show p + tw pred ((bytesOf s).drop p) - p = tw pred ((bytesOf s).drop p) by omega]

theorem tw_le (s : ByteArray) (p : Nat) (pred : UInt8 → Bool) (h : p ≤ s.size) : p + tw pred ((bytesOf s).drop p) ≤ s.size := by
  have : tw pred ((bytesOf s).drop p) ≤ ((bytesOf s).drop p).length := (List.takeWhile_sublist _).length_le
  rw [List.length_drop, bytesOf_length] at this
  omega

set_option maxHeartbeats 4000000 in
set_option maxRecDepth 100000 in
theorem readName_any (s : ByteArray) (p : Nat) (hp : p < s.size) (hs : s.size ≤ 65536) (hl : isLet s[p] = true) (w : World) :
    Calls Try.prog 31 #[.string s, .int .i64 p] w fun e w' => e = .returned (wordV p (wordOf s[p] ((bytesOf s).drop (p + 1)))) ∧ Kept [] w w' := by
  obtain ⟨V, hV⟩ : ∃ V, wordV p (wordOf s[p] ((bytesOf s).drop (p + 1))) = V := ⟨_, rfl⟩
  rw [hV]
  rw [wordOf_name hl, ← drop_at s p hp] at hV
  have HE : Hid (∀ w, _) := fun w => endOf_name s p (by omega) hs w
  have hte := tw_le s p isLD (by omega)
  have hpt := piece_tw s p isLD
  obtain ⟨m, hm⟩ : ∃ m, tw isLD ((bytesOf s).drop p) = m := ⟨_, rfl⟩
  rw [hm] at HE hV hte hpt
  have HP : Hid (∀ w, _) := fun w => piece_any s p (p + m) (by omega) hte hs w
  have HS : Hid (s.size ≤ 65536) := hs
  have HV : Hid _ := hV
  have hpb : (p : Int) + (m : Int) ≤ 65536 := by omega
  clear hl hV hs hm
  obtain ⟨t, ht⟩ : ∃ t, s.extract p (p + m) = t := ⟨_, rfl⟩
  have HT : Hid (bytesOf t = ((bytesOf s).drop p).takeWhile isLD) := by show _ = _; rw [← ht, hpt, bytesOf_strL]
  rw [ht] at HP
  clear hpt ht
  by_cases h32 : 32 < m
  · have h32' : (32 : Int) < (m : Int) := by omega
    go_enter Try.func31, Try.ntmps31
    go_wp2_with (first
      | (go_at_call 41; refine (HE.out _).mono ?_; rintro e w1 ⟨rfl, hw⟩; replace hw := hw.symm; subst hw)
      | (go_at_call 15; refine (mishap_any _ _ _).mono ?_; rintro e w1 ⟨rfl, hkm⟩; have htw := (two_new w).kept hkm; obtain ⟨⟨c0, c1, c2, c3, c4, c5⟩, f0, f1, f2, f3, f4, f5⟩ := htw.facts))
    exact leave_word Try.results31 rfl rfl rfl htw.1 htw.2 ((kept_two w []).trans hkm (by simp)) (Nat.le_refl _) (by rw [← HV.out, if_pos h32]; rfl)
  · have h32' : ¬ (32 : Int) < (m : Int) := by omega
    by_cases hkey : bytesOf t ∈ keyNames
    · go_enter Try.func31, Try.ntmps31
      go_wp2_with (first
        | (go_at_call 41; refine (HE.out _).mono ?_; rintro e w1 ⟨rfl, hw⟩; replace hw := hw.symm; subst hw)
        | (go_at_call 43; refine (HP.out _).mono ?_; rintro e w1 ⟨rfl, hkm⟩; have htw := (two_new w).kept hkm; have n1 : ¬ w.heap.size = w1.heap.size := htw.ne1; have n2 : ¬ w.heap.size + 1 = w1.heap.size := htw.ne2)
        | (go_at_call 21; refine (isKeyName_any _ _).mono ?_; rintro e w2 ⟨rfl, hw⟩; rw [toList_bytes, decide_eq_true hkey]; have htw7 : Two w2 w.heap.size := (by rw [hw]; exact htw.kept (Kept.alloc [] _ _)); have hloc : w2.heap[w1.heap.size]? = some (.cells #[.int .i64 1, .string t, .int .i64 0, .int .i64 p] 33 (0, 0)) := (by rw [hw]; exact heap_alloc_new w1 _); obtain ⟨⟨c0, c1, c2, c3, c4, c5⟩, f0, f1, f2, f3, f4, f5⟩ := htw7.facts; have l0 := cell_blk hloc 0; have l1 := cell_blk hloc 1; have l2 := cell_blk hloc 2; have l3 := cell_blk hloc 3; simp at l0 l1 l2 l3; have lf := free_blk hloc 0; have HK2 : Hid (Kept [] w w2) := (by rw [hw]; exact ((kept_two w []).trans hkm (by simp)).trans (Kept.alloc [] _ _) (by simp)); clear hw))
      have hle : w.heap.size ≤ w1.heap.size := by have := lt_of_block htw.1; omega
      exact leave_word Try.results31 rfl rfl rfl ((set_other n1).trans htw7.1) ((set_other n2).trans htw7.2) (HK2.out.trans (Kept.setCell _ _ _) (by simpa using hle)) (Nat.le_refl _) (by
        rw [← HV.out, if_neg h32, ← HT.out, if_pos hkey]; unfold wordV; simp only [strL_bytesOf]; rfl)
    · go_enter Try.func31, Try.ntmps31
      go_wp2_with (first
        | (go_at_call 41; refine (HE.out _).mono ?_; rintro e w1 ⟨rfl, hw⟩; replace hw := hw.symm; subst hw)
        | (go_at_call 43; refine (HP.out _).mono ?_; rintro e w1 ⟨rfl, hkm⟩; have htw := (two_new w).kept hkm; have n1 : ¬ w.heap.size = w1.heap.size := htw.ne1; have n2 : ¬ w.heap.size + 1 = w1.heap.size := htw.ne2)
        | (go_at_call 21; refine (isKeyName_any _ _).mono ?_; rintro e w2 ⟨rfl, hw⟩; rw [toList_bytes, decide_eq_false hkey]; have htw7 : Two w2 w.heap.size := (by rw [hw]; exact htw.kept (Kept.alloc [] _ _)); have hloc : w2.heap[w1.heap.size]? = some (.cells #[.int .i64 1, .string t, .int .i64 0, .int .i64 p] 33 (0, 0)) := (by rw [hw]; exact heap_alloc_new w1 _); obtain ⟨⟨c0, c1, c2, c3, c4, c5⟩, f0, f1, f2, f3, f4, f5⟩ := htw7.facts; have l0 := cell_blk hloc 0; have l1 := cell_blk hloc 1; have l2 := cell_blk hloc 2; have l3 := cell_blk hloc 3; simp at l0 l1 l2 l3; have lf := free_blk hloc 0; have HK2 : Hid (Kept [] w w2) := (by rw [hw]; exact ((kept_two w []).trans hkm (by simp)).trans (Kept.alloc [] _ _) (by simp)); clear hw))
      exact leave_word Try.results31 rfl rfl rfl htw7.1 htw7.2 HK2.out (Nat.le_refl _) (by
        rw [← HV.out, if_neg h32, ← HT.out, if_neg hkey]; unfold wordV; simp only [strL_bytesOf]; rfl)

end Go.Proofs.Ytmaaiahapmplgaa
