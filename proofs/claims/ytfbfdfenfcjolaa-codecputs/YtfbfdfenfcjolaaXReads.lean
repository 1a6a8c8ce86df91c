/-
  What the reference's reader does: it answers as the program's.
-/
import Derived.Test.YtfbfdfenfcjolaaXNumber
namespace Go.Proofs.Ytfbfdfenfcjolaa
open Go.RowKit

theorem xrd_new (w : World) (s : ByteArray) : RdIs 42 (w.alloc (.cells #[.string s, .int .i64 0] 42)) w.heap.size s 0 :=
  ⟨heap_alloc_new w _, Nat.zero_le _⟩

theorem xrd_set {w : World} {rb p : Nat} {s : ByteArray} (h : RdIs 42 w rb s p) (k m : Nat) (hn : p + m ≤ s.size) :
    RdIs 42 ((w.drewN k).setCell ⟨rb, 1, none⟩ (.int .i64 ((p : Int) + (m : Int)))) rb s (p + m) ∧ Kept [rb] w ((w.drewN k).setCell ⟨rb, 1, none⟩ (.int .i64 ((p : Int) + (m : Int)))) := by
  have hb : (w.drewN k).heap[rb]? = some (.cells #[.string s, .int .i64 p] 42 (0, 0)) := h.blk
  refine ⟨⟨?_, hn⟩, (Kept.drewN [rb] w k).trans (Kept.setCell _ _ _) (fun x hx => .inl hx)⟩
  rw [setCell_blk hb]
  rfl

theorem XRd.drewN {w : World} {rb p : Nat} {s : ByteArray} (h : RdIs 42 w rb s p) (k : Nat) : RdIs 42 (w.drewN k) rb s p := ⟨h.blk, h.le⟩

set_option maxHeartbeats 400000 in
theorem xUint_any (w : World) {rb p : Nat} {s : ByteArray} (h : RdIs 42 w rb s p) (hs : s.size ≤ 140737488355328) :
    Calls Try.prog 19 #[.pointer (some ⟨rb, 0, none⟩)] w fun e w' => e = .returned (.tuple #[.int .u64 ((numAt s p).1 : Int), .int .i64 (numAt s p).2.2]) ∧ RdIs 42 w' rb s (p + (numAt s p).2.1) ∧ Kept [rb] w w' := by
  have c1 := cell_blk h.blk 1
  have f1 := free_blk h.blk 1
  simp at c1
  have hn := numAt_le h.le
  go_enter Try.func19, Try.ntmps19
  go_wp2_with (go_at_call 41; refine (xnumber_any _ h hs).mono ?_; rintro e w1 ⟨rfl, j, rfl⟩)
  go_ret2
  exact ⟨rfl, xrd_set h j (numAt s p).2.1 hn⟩

theorem ret_int2 {a b c : Int} (h : a = b) : Ending.returned (.tuple #[.int .i64 a, .int .i64 c]) = .returned (.tuple #[.int .i64 b, .int .i64 c]) := by rw [h]

set_option maxHeartbeats 400000 in
theorem xInt_any (w : World) {rb p : Nat} {s : ByteArray} (h : RdIs 42 w rb s p) (hs : s.size ≤ 140737488355328) :
    Calls Try.prog 21 #[.pointer (some ⟨rb, 0, none⟩)] w fun e w' => e = .returned (.tuple #[.int .i64 (unfoldN (numAt s p).1), .int .i64 (numAt s p).2.2]) ∧ RdIs 42 w' rb s (p + (numAt s p).2.1) ∧ Kept [rb] w w' := by
  have hlt := numAt_lt s p
  by_cases h2 : (numAt s p).1 % 2 = 1
  · have hq : (((numAt s p).1 : Int) % 2 == 0) = false := by simp; omega
    have HU : Hid (unfoldN (numAt s p).1 = -(((numAt s p).1 : Int) / 2) - 1) := by show _ = _; unfold unfoldN; rw [if_pos h2]; omega
    clear h2
    go_enter Try.func21, Try.ntmps21
    go_wp2_with (go_at_call 19; refine (xUint_any _ h hs).mono ?_; rintro e w1 ⟨rfl, hr, hk⟩)
    go_ret2
    exact ⟨ret_int2 HU.out.symm, hr, hk⟩
  · have hq : (((numAt s p).1 : Int) % 2 == 0) = true := by simp; omega
    have HU : Hid (unfoldN (numAt s p).1 = ((numAt s p).1 : Int) / 2) := by show _ = _; unfold unfoldN; rw [if_neg h2]; omega
    clear h2
    go_enter Try.func21, Try.ntmps21
    go_wp2_with (go_at_call 19; refine (xUint_any _ h hs).mono ?_; rintro e w1 ⟨rfl, hr, hk⟩)
    go_ret2
    exact ⟨ret_int2 HU.out.symm, hr, hk⟩

set_option maxHeartbeats 400000 in
theorem May_any (n : Int) (w : World) : Calls Try.prog 44 #[.int .i64 n] w fun e w' => e = .returned (.bool (isSizeB n)) ∧ w' = w := by
  go_enter Try.func44, Try.ntmps44
  go_wp2
  all_goals go_ret
  all_goals exact ⟨by simp [isSizeB, *], rfl⟩

set_option maxHeartbeats 400000 in
theorem xFixed_arg (a : Addr) (n : Int) (w : World) (hn : isSizeB n = false) : Calls Try.prog 23 #[.pointer (some a), .int .i64 n] w fun e w' => e = .returned (.tuple #[.int .u64 0, .int .i64 1]) ∧ w' = w := by
  go_enter Try.func23, Try.ntmps23
  go_wp2_with (go_at_call 44; refine (May_any _ _).mono ?_; rw [hn]; rintro e w1 ⟨rfl, rfl⟩)
  go_ret2
  exact ⟨rfl, rfl⟩

set_option maxHeartbeats 400000 in
theorem xFixed_cut (w : World) {rb p k : Nat} {s : ByteArray} (h : RdIs 42 w rb s p) (hs : s.size ≤ 140737488355328) (hk : isSizeB (k : Int) = true) (hcut : ¬ k ≤ s.size - p) :
    Calls Try.prog 23 #[.pointer (some ⟨rb, 0, none⟩), .int .i64 (k : Int)] w fun e w' => e = .returned (.tuple #[.int .u64 0, .int .i64 10]) ∧ ∃ j, w' = w.drewN j := by
  have hle := h.le
  have c0 := cell_blk h.blk 0
  have c1 := cell_blk h.blk 1
  simp at c0 c1
  have hc : (s.size : Int) - p < (k : Int) := by omega
  have hwr : IntKind.i64.wrap ((s.size : Int) - (p : Int)) = (s.size : Int) - (p : Int) := by rw [IntKind.wrap_i64]; omega
  go_enter Try.func23, Try.ntmps23
  go_wp2_with (go_at_call 44; refine (May_any _ _).mono ?_; rw [hk]; rintro e w1 ⟨rfl, hw⟩; replace hw := hw.symm; subst hw)
  go_quiet (fail)
  go_wp2
  go_ret2
  exact ⟨rfl, _, rfl⟩

theorem xfix_step (l : List UInt8) (b : UInt8) (h : l.length ≤ 7) : IntKind.u64.wrap (IntKind.u64.wrap (256 * (fixVal l : Int)) + IntKind.u64.wrap ((b.toNat : Nat) : Int)) = (fixVal (b :: l) : Int) := by
  have hl := fixVal_lt l
  have h2 : fixVal l < 72057594037927936 := Nat.lt_of_lt_of_le hl (Nat.le_trans (Nat.pow_le_pow_right (by decide) (by omega : 8 * l.length ≤ 56)) (by decide))
  have hb := b.toNat_lt
  rw [fixVal, IntKind.wrap_u64, IntKind.wrap_u64, IntKind.wrap_u64]
  omega

theorem drop_take (s : ByteArray) (q m : Nat) (h : q < s.size) : ((bytesOf s).drop q).take (m + 1) = s[q] :: ((bytesOf s).drop (q + 1)).take m := by
  rw [drop_at s q h, List.take_succ_cons]

set_option maxHeartbeats 800000 in
theorem xFixed_yes (w : World) {rb p k : Nat} {s : ByteArray} (h : RdIs 42 w rb s p) (hs : s.size ≤ 140737488355328) (hk : isSizeB (k : Int) = true) (hk8 : (k : Int) ≤ 8) (hk0 : 0 < k) (hok : k ≤ s.size - p) :
    Calls Try.prog 23 #[.pointer (some ⟨rb, 0, none⟩), .int .i64 (k : Int)] w fun e w' => e = .returned (.tuple #[.int .u64 (fixVal (((bytesOf s).drop p).take k) : Int), .int .i64 0]) ∧ RdIs 42 w' rb s (p + k) ∧ Kept [rb] w w' := by
  have hle := h.le
  have hc : (k : Int) ≤ (s.size : Int) - p := by omega
  have c0 := cell_blk h.blk 0
  have c1 := cell_blk h.blk 1
  have f1 := free_blk h.blk 1
  simp at c0 c1
  have hwr : IntKind.i64.wrap ((s.size : Int) - (p : Int)) = (s.size : Int) - (p : Int) := by rw [IntKind.wrap_i64]; omega
  have hcb : decide ((s.size : Int) - (p : Int) < (k : Int)) = false := by simp; omega
  go_enter Try.func23, Try.ntmps23
  go_wp2_with (go_at_call 44; refine (May_any _ _).mono ?_; rw [hk]; rintro e w1 ⟨rfl, hw⟩; replace hw := hw.symm; subst hw)
  go_quiet (fail)
  go_wp2
  go_loopw [7, 8] (fun nv kv wr => ∃ (i j : Nat), i ≤ k ∧ kv = .int .i64 ((i : Int) - 1) ∧ nv = .int .u64 (fixVal (((bytesOf s).drop (p + i)).take (k - i)) : Int) ∧ wr = w.drewN j)
    (fun _ kv _ => (intOf kv + 1).toNat)
  case atStart => exact ⟨k, _, Nat.le_refl _, rfl, by simp [fixVal], rfl⟩
  case round =>
    obtain ⟨i, j2, hik, rfl, rfl, rfl⟩ := hrel
    by_cases hlt : 0 < i
    · obtain ⟨i', rfl⟩ : ∃ i', i = i' + 1 := ⟨i - 1, by omega⟩
      have e1 : (((i' + 1 : Nat) : Int) - 1) = (i' : Int) := by omega
      rw [e1]
      have hlt' : (0 : Int) ≤ (i' : Int) := by omega
      have hix : p + i' < s.size := by omega
      have hix' : (p : Int) + (i' : Int) < (s.size : Int) := by omega
      have hwr2 : IntKind.i64.wrap ((p : Int) + (i' : Int)) = (p : Int) + (i' : Int) := by rw [IntKind.wrap_i64]; omega
      have hp0 : (0 : Int) ≤ (p : Int) + (i' : Int) := by omega
      have htn : ((p : Int) + (i' : Int)).toNat = p + i' := by omega
      have HF : Hid (IntKind.u64.wrap (IntKind.u64.wrap (256 * (fixVal (((bytesOf s).drop (p + (i' + 1))).take (k - (i' + 1))) : Int)) + IntKind.u64.wrap ((s[p + i'].toNat : Nat) : Int)) = (fixVal (((bytesOf s).drop (p + i')).take (k - i')) : Int)) := by
        show _ = _
        rw [show k - i' = (k - (i' + 1)) + 1 by omega, drop_take s (p + i') _ hix, ← Nat.add_assoc]
        exact xfix_step _ _ (by rw [List.length_take]; omega)
      go_wp2
      go_quiet (fail)
      go_wp2
      go_roundw
      case rel => exact ⟨i', _, by omega, rfl, congrArg (Value.int .u64) HF.out, rfl⟩
      case measure => simp [intOf]
    · obtain rfl : i = 0 := by omega
      have hneg : ((0 : Nat) : Int) - 1 = -1 := rfl
      rw [hneg]
      go_wp2
      go_ret2
      exact ⟨rfl, xrd_set h _ k (by omega)⟩

end Go.Proofs.Ytfbfdfenfcjolaa
