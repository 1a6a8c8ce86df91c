/-
  What Text of a reader does.
-/
import Derived.Test.YtfbfdfenfcjolaaReads
namespace Go.Proofs.Ytfbfdfenfcjolaa
open Go.RowKit

set_option maxHeartbeats 400000 in
theorem rText_nil (n : Int) (w : World) : Calls Try.prog 24 #[.pointer none, .int .i64 n] w fun e w' => e = .returned (.tuple #[.string ByteArray.empty, .int .i64 1]) ∧ w' = w := by
  go_enter Try.func24, Try.ntmps24
  go_wp2
  go_ret2
  exact ⟨rfl, rfl⟩

set_option maxHeartbeats 400000 in
theorem rText_neg (a : Addr) (n : Int) (w : World) (hn : n < 0) : Calls Try.prog 24 #[.pointer (some a), .int .i64 n] w fun e w' => e = .returned (.tuple #[.string ByteArray.empty, .int .i64 1]) ∧ w' = w := by
  go_enter Try.func24, Try.ntmps24
  go_wp2
  go_ret2
  exact ⟨rfl, rfl⟩

set_option maxHeartbeats 400000 in
theorem rText_err (w : World) {rb p most : Nat} {s : ByteArray} (h : RdIs 76 w rb s p) (hs : s.size ≤ 140737488355328) (he : ((numAt s p).2.2 == 0) = false) :
    Calls Try.prog 24 #[.pointer (some ⟨rb, 0, none⟩), .int .i64 (most : Int)] w fun e w' => e = .returned (.tuple #[.string ByteArray.empty, .int .i64 (numAt s p).2.2]) ∧ ∃ k, w' = w.drewN k := by
  have c0 := cell_blk h.blk 0
  have c1 := cell_blk h.blk 1
  simp at c0 c1
  have hle := h.le
  have hne : ((numAt s p).2.2 != 0) = true := by rw [bne, he]; rfl
  clear he
  go_enter Try.func24, Try.ntmps24
  go_wp2
  go_quiet (fail)
  go_wp2_with (go_at_call 40; refine (number_at s p _ hs).mono ?_; rintro e w1 ⟨rfl, rfl⟩)
  go_ret2
  exact ⟨rfl, _, rfl⟩

set_option maxHeartbeats 400000 in
theorem rText_form (w : World) {rb p most : Nat} {s : ByteArray} (h : RdIs 76 w rb s p) (hs : s.size ≤ 140737488355328) (hm : (most : Int) ≤ 9223372036854775807) (he : (numAt s p).2.2 = 0) (hf : most < (numAt s p).1) :
    Calls Try.prog 24 #[.pointer (some ⟨rb, 0, none⟩), .int .i64 (most : Int)] w fun e w' => e = .returned (.tuple #[.string ByteArray.empty, .int .i64 11]) ∧ ∃ k, w' = w.drewN k := by
  have c0 := cell_blk h.blk 0
  have c1 := cell_blk h.blk 1
  simp at c0 c1
  have hle := h.le
  have hn := numAt_le h.le
  have hc := number_at s p
  rw [he] at hc
  have HC : Hid _ := hc
  clear hc he
  generalize (numAt s p).1 = n at *
  generalize (numAt s p).2.1 = m at *
  have hf' : (most : Int) < (n : Int) := by omega
  go_enter Try.func24, Try.ntmps24
  go_wp2
  go_quiet (fail)
  go_wp2_with (go_at_call 40; refine (HC.out _ hs).mono ?_; rintro e w1 ⟨rfl, rfl⟩)
  go_ret2
  exact ⟨rfl, _, rfl⟩

set_option maxHeartbeats 400000 in
theorem rText_cut (w : World) {rb p most : Nat} {s : ByteArray} (h : RdIs 76 w rb s p) (hs : s.size ≤ 140737488355328) (hm : (most : Int) ≤ 9223372036854775807) (he : (numAt s p).2.2 = 0) (hf : (numAt s p).1 ≤ most) (hcut : s.size - p - (numAt s p).2.1 < (numAt s p).1) :
    Calls Try.prog 24 #[.pointer (some ⟨rb, 0, none⟩), .int .i64 (most : Int)] w fun e w' => e = .returned (.tuple #[.string ByteArray.empty, .int .i64 10]) ∧ ∃ k, w' = w.drewN k := by
  have c0 := cell_blk h.blk 0
  have c1 := cell_blk h.blk 1
  simp at c0 c1
  have hle := h.le
  have hn := numAt_le h.le
  have hc := number_at s p
  rw [he] at hc
  have HC : Hid _ := hc
  clear hc he
  generalize (numAt s p).1 = n at *
  generalize (numAt s p).2.1 = m at *
  have hf' : (n : Int) ≤ (most : Int) := by omega
  have hcut' : ((s.size - p - m : Nat) : Int) < (n : Int) := by omega
  go_enter Try.func24, Try.ntmps24
  go_wp2
  go_quiet (fail)
  go_wp2_with (go_at_call 40; refine (HC.out _ hs).mono ?_; rintro e w1 ⟨rfl, rfl⟩)
  go_ret2
  exact ⟨rfl, _, rfl⟩

set_option maxHeartbeats 400000 in
theorem Clone_any (s : ByteArray) (w : World) (hs : s.size ≤ 281474976710656) :
    Calls Try.prog 45 #[.string s] w fun e w' => e = .returned (.string s) ∧ Kept [] w w' := by
  go_enter Try.func45, Try.ntmps45
  go_wp2_with (go_at_call 53; refine (Try.stringslite_Clone _ _ hs).mono ?_; rintro e w1 ⟨rfl, hb⟩)
  go_ret
  exact ⟨rfl, Kept.of_below hb⟩

theorem extract3 (s : ByteArray) (p m n : Nat) (h : p + m + n ≤ s.size) : ((s.extract p s.size).extract m (s.size - p)).extract 0 n = s.extract (p + m) (p + m + n) := by
  apply ByteArray.ext
  apply Array.ext'
  rw [Lib.extract_data, Lib.extract_data, Lib.extract_data, Lib.extract_data]
  have hl : s.data.toList.length = s.size := by rw [Array.length_toList]; rfl
  rw [List.take_of_length_le (l := s.data.toList.drop p) (by rw [List.length_drop, hl]; omega), List.drop_drop, List.drop_zero, List.take_take]
  congr 1
  omega

set_option maxHeartbeats 800000 in
theorem rText_yes (w : World) {rb p most : Nat} {s : ByteArray} (h : RdIs 76 w rb s p) (hs : s.size ≤ 140737488355328) (hm : (most : Int) ≤ 9223372036854775807) (he : (numAt s p).2.2 = 0) (hf : (numAt s p).1 ≤ most) (hyes : (numAt s p).1 ≤ s.size - p - (numAt s p).2.1) :
    Calls Try.prog 24 #[.pointer (some ⟨rb, 0, none⟩), .int .i64 (most : Int)] w fun e w' => e = .returned (.tuple #[.string (s.extract (p + (numAt s p).2.1) (p + (numAt s p).2.1 + (numAt s p).1)), .int .i64 0]) ∧
      RdIs 76 w' rb s (p + ((numAt s p).2.1 + (numAt s p).1)) ∧ Kept [rb] w w' := by
  have c0 := cell_blk h.blk 0
  have c1 := cell_blk h.blk 1
  have f1 := free_blk h.blk 1
  simp at c0 c1
  have hle := h.le
  have hn := numAt_le h.le
  have hc := number_at s p
  rw [he] at hc
  have HC : Hid _ := hc
  clear hc he
  generalize (numAt s p).1 = n at *
  generalize (numAt s p).2.1 = m at *
  have hf' : (n : Int) ≤ (most : Int) := by omega
  have hyes' : (n : Int) ≤ ((s.size - p - m : Nat) : Int) := by omega
  go_enter Try.func24, Try.ntmps24
  go_wp2
  go_quiet (fail)
  go_wp2_with (first | (go_at_call 40; refine (HC.out _ hs).mono ?_; rintro e w1 ⟨rfl, rfl⟩))
  rw [extract3 s p m n (by omega)]
  refine (Clone_any _ _ (by rw [ByteArray.size_extract]; omega)).mono ?_
  rintro e w2 ⟨rfl, hk⟩
  have hset := rd_set h nq (m + n) (by omega)
  rw [Int.natCast_add] at hset
  have hset2 := hset.1.kept hk (by simp)
  have hk2 := hset.2.trans hk (by simp)
  clear hset HC
  go_wp2
  go_ret2
  exact ⟨rfl, hset2, hk2⟩

/-- What Text answers at a place: the text, how far the reader goes on, the error. -/
def textAt (s : ByteArray) (p most : Nat) : ByteArray × Nat × Int :=
  if (numAt s p).2.2 = 0 then
    (if most < (numAt s p).1 then (ByteArray.empty, 0, 11)
     else if s.size - p - (numAt s p).2.1 < (numAt s p).1 then (ByteArray.empty, 0, 10)
     else (s.extract (p + (numAt s p).2.1) (p + (numAt s p).2.1 + (numAt s p).1), (numAt s p).2.1 + (numAt s p).1, 0))
  else (ByteArray.empty, 0, (numAt s p).2.2)

theorem RdIs.drewN {w : World} {rb p : Nat} {s : ByteArray} (h : RdIs 76 w rb s p) (k : Nat) : RdIs 76 (w.drewN k) rb s p := ⟨h.blk, h.le⟩

theorem rText_any (w : World) {rb p most : Nat} {s : ByteArray} (h : RdIs 76 w rb s p) (hs : s.size ≤ 140737488355328) (hm : (most : Int) ≤ 9223372036854775807) :
    Calls Try.prog 24 #[.pointer (some ⟨rb, 0, none⟩), .int .i64 (most : Int)] w fun e w' => e = .returned (.tuple #[.string (textAt s p most).1, .int .i64 (textAt s p most).2.2]) ∧
      RdIs 76 w' rb s (p + (textAt s p most).2.1) ∧ Kept [rb] w w' := by
  unfold textAt
  by_cases he : (numAt s p).2.2 = 0
  · rw [if_pos he]
    by_cases hf : most < (numAt s p).1
    · rw [if_pos hf]
      exact (rText_form w h hs hm he hf).mono fun e w' ⟨h1, k, h2⟩ => ⟨h1, by rw [h2]; exact h.drewN k, by rw [h2]; exact Kept.drewN _ _ _⟩
    · rw [if_neg hf]
      by_cases hc : s.size - p - (numAt s p).2.1 < (numAt s p).1
      · rw [if_pos hc]
        exact (rText_cut w h hs hm he (by omega) hc).mono fun e w' ⟨h1, k, h2⟩ => ⟨h1, by rw [h2]; exact h.drewN k, by rw [h2]; exact Kept.drewN _ _ _⟩
      · rw [if_neg hc]
        exact rText_yes w h hs hm he (by omega) (by omega)
  · rw [if_neg he]
    exact (rText_err w h hs (by simpa using he)).mono fun e w' ⟨h1, k, h2⟩ => ⟨h1, by rw [h2]; exact h.drewN k, by rw [h2]; exact Kept.drewN _ _ _⟩

end Go.Proofs.Ytfbfdfenfcjolaa
