/-
  What Text of the reference's reader does: it answers as the program's.
-/
import Derived.Test.YtfbfdfenfcjolaaXReads
namespace Go.Proofs.Ytfbfdfenfcjolaa
open Go.RowKit

set_option maxHeartbeats 400000 in
theorem xText_neg (a : Addr) (n : Int) (w : World) (hn : n < 0) : Calls Try.prog 25 #[.pointer (some a), .int .i64 n] w fun e w' => e = .returned (.tuple #[.string ByteArray.empty, .int .i64 1]) ∧ w' = w := by
  go_enter Try.func25, Try.ntmps25
  go_wp2
  go_ret2
  exact ⟨rfl, rfl⟩

set_option maxHeartbeats 400000 in
theorem xText_err (w : World) {rb p most : Nat} {s : ByteArray} (h : RdIs 42 w rb s p) (hs : s.size ≤ 140737488355328) (he : ((numAt s p).2.2 == 0) = false) :
    Calls Try.prog 25 #[.pointer (some ⟨rb, 0, none⟩), .int .i64 (most : Int)] w fun e w' => e = .returned (.tuple #[.string ByteArray.empty, .int .i64 (numAt s p).2.2]) ∧ ∃ k, w' = w.drewN k := by
  have hne : ((numAt s p).2.2 != 0) = true := by rw [bne, he]; rfl
  clear he
  go_enter Try.func25, Try.ntmps25
  go_wp2_with (go_at_call 41; refine (xnumber_any _ h hs).mono ?_; rintro e w1 ⟨rfl, j, rfl⟩)
  go_ret2
  exact ⟨rfl, _, rfl⟩

set_option maxHeartbeats 400000 in
theorem xText_form (w : World) {rb p most : Nat} {s : ByteArray} (h : RdIs 42 w rb s p) (hs : s.size ≤ 140737488355328) (hm : (most : Int) ≤ 9223372036854775807) (he : (numAt s p).2.2 = 0) (hf : most < (numAt s p).1) :
    Calls Try.prog 25 #[.pointer (some ⟨rb, 0, none⟩), .int .i64 (most : Int)] w fun e w' => e = .returned (.tuple #[.string ByteArray.empty, .int .i64 11]) ∧ ∃ k, w' = w.drewN k := by
  have hc := fun (_ : Unit) => xnumber_any w h hs
  rw [he] at hc
  have HC : Hid _ := hc
  clear hc he
  generalize (numAt s p).1 = n at *
  generalize (numAt s p).2.1 = m at *
  have hf' : (most : Int) < (n : Int) := by omega
  go_enter Try.func25, Try.ntmps25
  go_wp2_with (go_at_call 41; refine (HC.out ()).mono ?_; rintro e w1 ⟨rfl, j, rfl⟩)
  go_ret2
  exact ⟨rfl, _, rfl⟩

set_option maxHeartbeats 400000 in
theorem xText_cut (w : World) {rb p most : Nat} {s : ByteArray} (h : RdIs 42 w rb s p) (hs : s.size ≤ 140737488355328) (hm : (most : Int) ≤ 9223372036854775807) (he : (numAt s p).2.2 = 0) (hf : (numAt s p).1 ≤ most) (hcut : s.size - p - (numAt s p).2.1 < (numAt s p).1) :
    Calls Try.prog 25 #[.pointer (some ⟨rb, 0, none⟩), .int .i64 (most : Int)] w fun e w' => e = .returned (.tuple #[.string ByteArray.empty, .int .i64 10]) ∧ ∃ k, w' = w.drewN k := by
  have c0 := cell_blk h.blk 0
  have c1 := cell_blk h.blk 1
  simp at c0 c1
  have hle := h.le
  have hn := numAt_le h.le
  have hc := fun (_ : Unit) => xnumber_any w h hs
  rw [he] at hc
  have HC : Hid _ := hc
  clear hc he
  generalize (numAt s p).1 = n at *
  generalize (numAt s p).2.1 = m at *
  have hf' : (n : Int) ≤ (most : Int) := by omega
  have hcut' : (s.size : Int) - (p : Int) - (m : Int) < (n : Int) := by omega
  have hw1 : IntKind.i64.wrap ((s.size : Int) - (p : Int)) = (s.size : Int) - (p : Int) := by rw [IntKind.wrap_i64]; omega
  have hw2 : IntKind.i64.wrap ((s.size : Int) - (p : Int) - (m : Int)) = (s.size : Int) - (p : Int) - (m : Int) := by rw [IntKind.wrap_i64]; omega
  have hw3 : IntKind.u64.wrap ((s.size : Int) - (p : Int) - (m : Int)) = (s.size : Int) - (p : Int) - (m : Int) := by rw [IntKind.wrap_u64]; omega
  go_enter Try.func25, Try.ntmps25
  go_wp2_with (go_at_call 41; refine (HC.out ()).mono ?_; rintro e w1 ⟨rfl, j, rfl⟩)
  go_quiet (fail)
  go_wp2
  go_ret2
  exact ⟨rfl, _, by first | rfl | rw [World.drewN_drewN]⟩

set_option maxHeartbeats 800000 in
theorem xText_yes (w : World) {rb p most : Nat} {s : ByteArray} (h : RdIs 42 w rb s p) (hs : s.size ≤ 140737488355328) (hm : (most : Int) ≤ 9223372036854775807) (he : (numAt s p).2.2 = 0) (hf : (numAt s p).1 ≤ most) (hyes : (numAt s p).1 ≤ s.size - p - (numAt s p).2.1) :
    Calls Try.prog 25 #[.pointer (some ⟨rb, 0, none⟩), .int .i64 (most : Int)] w fun e w' => e = .returned (.tuple #[.string (s.extract (p + (numAt s p).2.1) (p + (numAt s p).2.1 + (numAt s p).1)), .int .i64 0]) ∧
      RdIs 42 w' rb s (p + ((numAt s p).2.1 + (numAt s p).1)) ∧ Kept [rb] w w' := by
  have c0 := cell_blk h.blk 0
  have c1 := cell_blk h.blk 1
  have f1 := free_blk h.blk 1
  simp at c0 c1
  have hle := h.le
  have hn := numAt_le h.le
  have hc := fun (_ : Unit) => xnumber_any w h hs
  rw [he] at hc
  have HC : Hid _ := hc
  clear hc he
  generalize (numAt s p).1 = n at *
  generalize (numAt s p).2.1 = m at *
  have hf' : (n : Int) ≤ (most : Int) := by omega
  have hyes' : (n : Int) ≤ (s.size : Int) - (p : Int) - (m : Int) := by omega
  have hw1 : IntKind.i64.wrap ((s.size : Int) - (p : Int)) = (s.size : Int) - (p : Int) := by rw [IntKind.wrap_i64]; omega
  have hw2 : IntKind.i64.wrap ((s.size : Int) - (p : Int) - (m : Int)) = (s.size : Int) - (p : Int) - (m : Int) := by rw [IntKind.wrap_i64]; omega
  have hw3 : IntKind.u64.wrap ((s.size : Int) - (p : Int) - (m : Int)) = (s.size : Int) - (p : Int) - (m : Int) := by rw [IntKind.wrap_u64]; omega
  have hw4 : IntKind.i64.wrap ((p : Int) + (m : Int)) = (p : Int) + (m : Int) := by rw [IntKind.wrap_i64]; omega
  have hw5 : IntKind.i64.wrap (n : Int) = (n : Int) := by rw [IntKind.wrap_i64]; omega
  have hw6 : IntKind.i64.wrap ((p : Int) + (m : Int) + (n : Int)) = (p : Int) + (m : Int) + (n : Int) := by rw [IntKind.wrap_i64]; omega
  go_enter Try.func25, Try.ntmps25
  go_wp2_with (go_at_call 41; refine (HC.out ()).mono ?_; rintro e w1 ⟨rfl, j, rfl⟩)
  go_quiet (fail)
  go_wp2
  go_quiet (fail)
  go_wp2
  go_ret2
  refine ⟨rfl, ?_⟩
  have hset := fun q => xrd_set h q (m + n) (by omega)
  simp only [Int.natCast_add, ← Int.add_assoc] at hset
  exact hset _

theorem xText_any (w : World) {rb p most : Nat} {s : ByteArray} (h : RdIs 42 w rb s p) (hs : s.size ≤ 140737488355328) (hm : (most : Int) ≤ 9223372036854775807) :
    Calls Try.prog 25 #[.pointer (some ⟨rb, 0, none⟩), .int .i64 (most : Int)] w fun e w' => e = .returned (.tuple #[.string (textAt s p most).1, .int .i64 (textAt s p most).2.2]) ∧
      RdIs 42 w' rb s (p + (textAt s p most).2.1) ∧ Kept [rb] w w' := by
  unfold textAt
  by_cases he : (numAt s p).2.2 = 0
  · rw [if_pos he]
    by_cases hf : most < (numAt s p).1
    · rw [if_pos hf]
      exact (xText_form w h hs hm he hf).mono fun e w' ⟨h1, k, h2⟩ => ⟨h1, by rw [h2]; exact XRd.drewN h k, by rw [h2]; exact Kept.drewN _ _ _⟩
    · rw [if_neg hf]
      by_cases hc : s.size - p - (numAt s p).2.1 < (numAt s p).1
      · rw [if_pos hc]
        exact (xText_cut w h hs hm he (by omega) hc).mono fun e w' ⟨h1, k, h2⟩ => ⟨h1, by rw [h2]; exact XRd.drewN h k, by rw [h2]; exact Kept.drewN _ _ _⟩
      · rw [if_neg hc]
        exact xText_yes w h hs hm he (by omega) (by omega)
  · rw [if_neg he]
    exact (xText_err w h hs (by simpa using he)).mono fun e w' ⟨h1, k, h2⟩ => ⟨h1, by rw [h2]; exact XRd.drewN h k, by rw [h2]; exact Kept.drewN _ _ _⟩

/-- What Text(n) answers, n whatever. -/
def textZ (s : ByteArray) (p : Nat) (n : Int) : ByteArray × Nat × Int := if n < 0 then (ByteArray.empty, 0, 1) else textAt s p n.toNat

/-- What Fixed(n) answers, n whatever. -/
def fixZ (s : ByteArray) (p : Nat) (n : Int) : Nat × Nat × Int :=
  if isSizeB n = true then (if n.toNat ≤ s.size - p then (fixVal (((bytesOf s).drop p).take n.toNat), n.toNat, 0) else (0, 0, 10)) else (0, 0, 1)

theorem rTextZ (w : World) {rb p : Nat} {n : Int} {s : ByteArray} (h : RdIs 76 w rb s p) (hs : s.size ≤ 140737488355328) (h1 : n ≤ 9223372036854775807) :
    Calls Try.prog 24 #[.pointer (some ⟨rb, 0, none⟩), .int .i64 n] w fun e w' => e = .returned (.tuple #[.string (textZ s p n).1, .int .i64 (textZ s p n).2.2]) ∧ RdIs 76 w' rb s (p + (textZ s p n).2.1) ∧ Kept [rb] w w' := by
  unfold textZ
  by_cases hn : n < 0
  · rw [if_pos hn]
    exact (rText_neg _ n w hn).mono fun e w' ⟨he, hw⟩ => ⟨he, by rw [hw]; exact h, by rw [hw]; exact Kept.refl _ _⟩
  · rw [if_neg hn]
    obtain ⟨m, rfl⟩ := Int.eq_ofNat_of_zero_le (by omega : 0 ≤ n)
    exact rText_any (most := m) w h hs h1

theorem xTextZ (w : World) {rb p : Nat} {n : Int} {s : ByteArray} (h : RdIs 42 w rb s p) (hs : s.size ≤ 140737488355328) (h1 : n ≤ 9223372036854775807) :
    Calls Try.prog 25 #[.pointer (some ⟨rb, 0, none⟩), .int .i64 n] w fun e w' => e = .returned (.tuple #[.string (textZ s p n).1, .int .i64 (textZ s p n).2.2]) ∧ RdIs 42 w' rb s (p + (textZ s p n).2.1) ∧ Kept [rb] w w' := by
  unfold textZ
  by_cases hn : n < 0
  · rw [if_pos hn]
    exact (xText_neg _ n w hn).mono fun e w' ⟨he, hw⟩ => ⟨he, by rw [hw]; exact h, by rw [hw]; exact Kept.refl _ _⟩
  · rw [if_neg hn]
    obtain ⟨m, rfl⟩ := Int.eq_ofNat_of_zero_le (by omega : 0 ≤ n)
    exact xText_any (most := m) w h hs h1

theorem rFixedZ (w : World) {rb p : Nat} {n : Int} {s : ByteArray} (h : RdIs 76 w rb s p) (hs : s.size ≤ 140737488355328) :
    Calls Try.prog 22 #[.pointer (some ⟨rb, 0, none⟩), .int .i64 n] w fun e w' => e = .returned (.tuple #[.int .u64 ((fixZ s p n).1 : Int), .int .i64 (fixZ s p n).2.2]) ∧ RdIs 76 w' rb s (p + (fixZ s p n).2.1) ∧ Kept [rb] w w' := by
  unfold fixZ
  by_cases hn : isSizeB n = true
  · rw [if_pos hn]
    have hsz := isSizeB_le hn
    obtain ⟨m, rfl⟩ := Int.eq_ofNat_of_zero_le (by omega : 0 ≤ n)
    rw [Int.toNat_natCast]
    by_cases hc : m ≤ s.size - p
    · rw [if_pos hc]
      exact rFixed_yes w h hs hn (by omega) hc
    · rw [if_neg hc]
      exact (rFixed_cut w h hs hn hc).mono fun e w' ⟨he, k, hw⟩ => ⟨he, by rw [hw]; exact h.drewN k, by rw [hw]; exact Kept.drewN _ _ _⟩
  · rw [if_neg hn]
    exact (rFixed_arg _ n w (by simpa using hn)).mono fun e w' ⟨he, hw⟩ => ⟨he, by rw [hw]; exact h, by rw [hw]; exact Kept.refl _ _⟩

theorem xFixedZ (w : World) {rb p : Nat} {n : Int} {s : ByteArray} (h : RdIs 42 w rb s p) (hs : s.size ≤ 140737488355328) :
    Calls Try.prog 23 #[.pointer (some ⟨rb, 0, none⟩), .int .i64 n] w fun e w' => e = .returned (.tuple #[.int .u64 ((fixZ s p n).1 : Int), .int .i64 (fixZ s p n).2.2]) ∧ RdIs 42 w' rb s (p + (fixZ s p n).2.1) ∧ Kept [rb] w w' := by
  unfold fixZ
  by_cases hn : isSizeB n = true
  · rw [if_pos hn]
    have hsz := isSizeB_le hn
    obtain ⟨m, rfl⟩ := Int.eq_ofNat_of_zero_le (by omega : 0 ≤ n)
    rw [Int.toNat_natCast]
    by_cases hc : m ≤ s.size - p
    · rw [if_pos hc]
      exact xFixed_yes w h hs hn (by omega) (by omega) hc
    · rw [if_neg hc]
      exact (xFixed_cut w h hs hn hc).mono fun e w' ⟨he, k, hw⟩ => ⟨he, by rw [hw]; exact XRd.drewN h k, by rw [hw]; exact Kept.drewN _ _ _⟩
  · rw [if_neg hn]
    exact (xFixed_arg _ n w (by simpa using hn)).mono fun e w' ⟨he, hw⟩ => ⟨he, by rw [hw]; exact h, by rw [hw]; exact Kept.refl _ _⟩

end Go.Proofs.Ytfbfdfenfcjolaa
