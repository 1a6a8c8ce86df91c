/-
  Reads.
-/
import Derived.Lib.Strings
import Derived.Test.YtcpgpiokjghcnaaM15
/-
  What the calls of a reader do.
-/
namespace Go.Proofs.Ytcpgpiokjghcnaa
open Go.RowKit

set_option maxHeartbeats 400000 in
theorem Read_any (s : ByteArray) (w : World) :
    Calls Try.prog 26 #[.string s] w fun e w' => e = .returned (.pointer (some ⟨w.heap.size, 0, none⟩)) ∧ w' = w.alloc (.cells #[.string s, .int .i64 0] 100) := by
  go_enter Try.func26, Try.ntmps26
  go_wp2
  go_ret
  exact ⟨rfl, rfl⟩

theorem rd_new (w : World) (s : ByteArray) : RdIs 100 (w.alloc (.cells #[.string s, .int .i64 0] 100)) w.heap.size s 0 :=
  ⟨heap_alloc_new w _, Nat.zero_le _⟩

set_option maxHeartbeats 400000 in
theorem At_nil (w : World) : Calls Try.prog 28 #[.pointer none] w fun e w' => e = .returned (.int .i64 0) ∧ w' = w := by
  go_enter Try.func28, Try.ntmps28
  go_wp2
  go_ret
  exact ⟨rfl, rfl⟩

set_option maxHeartbeats 400000 in
theorem At_any (w : World) {rb p : Nat} {s : ByteArray} (h : RdIs 100 w rb s p) : Calls Try.prog 28 #[.pointer (some ⟨rb, 0, none⟩)] w fun e w' => e = .returned (.int .i64 (p : Int)) ∧ w' = w := by
  have c1 := cell_blk h.blk 1
  simp at c1
  clear h
  go_enter Try.func28, Try.ntmps28
  go_wp2
  go_ret
  exact ⟨rfl, rfl⟩

set_option maxHeartbeats 400000 in
theorem rLeft_nil (w : World) : Calls Try.prog 63 #[.pointer none] w fun e w' => e = .returned (.int .i64 0) ∧ w' = w := by
  go_enter Try.func63, Try.ntmps63
  go_wp2
  go_ret
  exact ⟨rfl, rfl⟩

set_option maxHeartbeats 400000 in
theorem rLeft_any (w : World) {rb p : Nat} {s : ByteArray} (h : RdIs 100 w rb s p) (hs : s.size ≤ 140737488355328) :
    Calls Try.prog 63 #[.pointer (some ⟨rb, 0, none⟩)] w fun e w' => e = .returned (.int .i64 ((s.size : Int) - p)) ∧ ∃ k, w' = w.drewN k := by
  have c0 := cell_blk h.blk 0
  have c1 := cell_blk h.blk 1
  simp at c0 c1
  have hle := h.le
  clear h
  go_enter Try.func63, Try.ntmps63
  go_wp2
  go_quiet (fail)
  go_wp2
  go_ret
  exact ⟨rfl, _, rfl⟩

theorem bytesOf_drop (s : ByteArray) (p : Nat) : bytesOf (s.extract p s.size) = (bytesOf s).drop p := by
  unfold bytesOf
  rw [Lib.extract_data, List.take_of_length_le]
  rw [List.length_drop, Array.length_toList]
  exact Nat.le_refl _

theorem decAt_le (l : List UInt8) : ∀ i acc, (decAt i acc l).2.1 ≤ i + l.length := by
  induction l with
  | nil => intro i acc; simp [decAt]
  | cons b r ih =>
    intro i acc
    rw [decAt]
    split
    · simp
    · split
      · split
        · simp
        · simp
      · have := ih (i + 1) (acc + (b.toNat - 128) * 128 ^ i); simp; omega

/-- The number at a place: how much is read. -/
def numAt (s : ByteArray) (p : Nat) : Nat × Nat × Int := decU ((bytesOf s).drop p)
theorem numAt_le {s : ByteArray} {p : Nat} (h : p ≤ s.size) : p + (numAt s p).2.1 ≤ s.size := by
  have := decAt_le ((bytesOf s).drop p) 0 0
  rw [List.length_drop, bytesOf_length] at this
  have e : (numAt s p).2.1 = (decAt 0 0 ((bytesOf s).drop p)).2.1 := rfl
  omega

theorem number_at (s : ByteArray) (p : Nat) (w : World) (hs : s.size ≤ 140737488355328) :
    Calls Try.prog 35 #[.string (s.extract p s.size)] w fun e w' => e = .returned (.tuple #[.int .u64 ((numAt s p).1 : Int), .int .i64 ((numAt s p).2.1 : Int), .int .i64 (numAt s p).2.2]) ∧ w' = w := by
  have h := number_any (s.extract p s.size) w (by rw [ByteArray.size_extract]; omega)
  rw [bytesOf_drop] at h
  exact h

set_option maxHeartbeats 400000 in
theorem rUint_nil (w : World) : Calls Try.prog 27 #[.pointer none] w fun e w' => e = .returned (.tuple #[.int .u64 0, .int .i64 1]) ∧ w' = w := by
  go_enter Try.func27, Try.ntmps27
  go_wp2
  go_ret2
  exact ⟨rfl, rfl⟩

theorem rd_set {w : World} {rb p : Nat} {s : ByteArray} (h : RdIs 100 w rb s p) (k m : Nat) (hn : p + m ≤ s.size) :
    RdIs 100 ((w.drewN k).setCell ⟨rb, 1, none⟩ (.int .i64 ((p : Int) + (m : Int)))) rb s (p + m) ∧ Kept [rb] w ((w.drewN k).setCell ⟨rb, 1, none⟩ (.int .i64 ((p : Int) + (m : Int)))) := by
  have hb : (w.drewN k).heap[rb]? = some (.cells #[.string s, .int .i64 p] 100 (0, 0)) := h.blk
  refine ⟨⟨?_, hn⟩, (Kept.drewN [rb] w k).trans (Kept.setCell _ _ _) (fun x hx => .inl hx)⟩
  rw [setCell_blk hb]
  rfl

set_option maxHeartbeats 400000 in
theorem rUint_any (w : World) {rb p : Nat} {s : ByteArray} (h : RdIs 100 w rb s p) (hs : s.size ≤ 140737488355328) :
    Calls Try.prog 27 #[.pointer (some ⟨rb, 0, none⟩)] w fun e w' => e = .returned (.tuple #[.int .u64 ((numAt s p).1 : Int), .int .i64 (numAt s p).2.2]) ∧ RdIs 100 w' rb s (p + (numAt s p).2.1) ∧ Kept [rb] w w' := by
  have c0 := cell_blk h.blk 0
  have c1 := cell_blk h.blk 1
  have f1 := free_blk h.blk 1
  simp at c0 c1
  have hle := h.le
  have hn := numAt_le h.le
  go_enter Try.func27, Try.ntmps27
  go_wp2
  go_quiet ((go_at_call 35; exact Calls.quiet_of_same (number_at _ _ _ hs)))
  go_wp2
  go_ret2
  exact ⟨rfl, rd_set h nq (numAt s p).2.1 hn⟩

/-- All binary digits turned. -/
def notN (x : Int) : Int := bits .xor .i64 (-1) x

/-- '^x' of a signed number, as the walk takes it. -/
theorem wpList_not {P : Program} (w : World) {ops : Array Oper} {rest : List Oper} {o : Oper} {a : Act} {Q : Exit → Act → World → Prop} (hgd : o.guard = none) (x : Operand) (t : TypeId)
    (ho : o.op = .unOp .xor t x) (v : Int) (hx : a.eval x = .int .i64 v) (hK : wpList P ops Q rest (a.put o.dst (.int .i64 (notN v))) w) : wpList P ops Q (o :: rest) a w := by
  refine wpList_plain hgd fun _ hK' => ?_
  have hr : (Op.unary .xor (.int .i64 v)).run P w = .ok (.int .i64 (notN v)) w := by simp [Op.unary, go_sem, IntKind.signed, notN]
  unfold Oper.wp
  simp [execOp, ho, hx, hr, Result.andThen]
  exact hK' _ _ hK

theorem ret_i64 {a b : Int} (h : a = b) : Ending.returned (.int .i64 a) = .returned (.int .i64 b) := by rw [h]

theorem decAt_lt (l : List UInt8) : ∀ i acc, i ≤ 9 → acc < 128 ^ i → (decAt i acc l).1 < 18446744073709551616 := by
  induction l with
  | nil => intro i acc _ _; simp [decAt]
  | cons b r ih =>
    intro i acc hi hacc
    have hb := b.toNat_lt
    rw [decAt]
    split
    · simp
    · rename_i h9
      split
      · rename_i hlow
        split
        · simp
        · show acc + b.toNat * 128 ^ i < 18446744073709551616
          by_cases h : i = 9
          · subst h
            have h1 : b.toNat ≤ 1 := by omega
            have h2 : b.toNat * 128 ^ 9 ≤ 1 * 128 ^ 9 := Nat.mul_le_mul_right _ h1
            have h3 : (128 ^ 9 : Nat) + 1 * 128 ^ 9 ≤ 18446744073709551616 := by decide
            exact Nat.lt_of_lt_of_le (Nat.add_lt_add_of_lt_of_le hacc h2) h3
          · have h2 : b.toNat * 128 ^ i ≤ 127 * 128 ^ i := Nat.mul_le_mul_right _ (by omega)
            have h4 : (128 : Nat) ^ i ≤ 128 ^ 8 := Nat.pow_le_pow_right (by decide) (by omega)
            have h5 : (128 : Nat) ^ i + 127 * 128 ^ i = 128 * 128 ^ i := by omega
            have h6 : 128 * 128 ^ i ≤ 128 * 128 ^ 8 := Nat.mul_le_mul_left _ h4
            have h7 : (128 * 128 ^ 8 : Nat) ≤ 18446744073709551616 := by decide
            exact Nat.lt_of_lt_of_le (Nat.add_lt_add_of_lt_of_le hacc h2) (by rw [h5]; exact Nat.le_trans h6 h7)
      · rename_i hlow
        have h9' : i ≠ 9 := fun c => h9 ⟨c, by omega⟩
        have e : b.toNat - 128 = b.toNat % 128 := by omega
        rw [e]
        exact ih (i + 1) _ (by omega) (acc_step acc i b.toNat hacc)

theorem numAt_lt (s : ByteArray) (p : Nat) : ((numAt s p).1 : Int) < 18446744073709551616 := by
  have := decAt_lt ((bytesOf s).drop p) 0 0 (by omega) (by decide)
  have e : (numAt s p).1 = (decAt 0 0 ((bytesOf s).drop p)).1 := rfl
  omega

theorem take_at (s : ByteArray) (p i : Nat) (h : p + i < s.size) : ((bytesOf s).drop p).take (i + 1) = ((bytesOf s).drop p).take i ++ [s[p + i]] := by
  have hl : i < ((bytesOf s).drop p).length := by rw [List.length_drop, bytesOf_length]; omega
  rw [List.take_succ_eq_append_getElem hl, List.getElem_drop]
  rfl

end Go.Proofs.Ytcpgpiokjghcnaa
