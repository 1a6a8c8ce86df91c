/-
  Reads, NXNum, NXUint.
-/
import Derived.Lib.Strings
import Derived.Test.YtkjalclplfdpmaaM16
/-
  What the calls of a reader do.
-/
namespace Go.Proofs.Ytkjalclplfdpmaa
open Go.RowKit

set_option maxHeartbeats 400000 in
theorem Read_any (s : ByteArray) (w : World) :
    Calls Try.prog 74 #[.string s] w fun e w' => e = .returned (.pointer (some ⟨w.heap.size, 0, none⟩)) ∧ w' = w.alloc (.cells #[.string s, .int .i64 0] 152) := by
  go_enter Try.func74, Try.ntmps74
  go_wp2
  go_ret
  exact ⟨rfl, rfl⟩

theorem rd_new (w : World) (s : ByteArray) : RdIs 152 (w.alloc (.cells #[.string s, .int .i64 0] 152)) w.heap.size s 0 :=
  ⟨heap_alloc_new w _, Nat.zero_le _⟩

set_option maxHeartbeats 400000 in
theorem rLeft_nil (w : World) : Calls Try.prog 76 #[.pointer none] w fun e w' => e = .returned (.int .i64 0) ∧ w' = w := by
  go_enter Try.func76, Try.ntmps76
  go_wp2
  go_ret
  exact ⟨rfl, rfl⟩

set_option maxHeartbeats 400000 in
theorem rLeft_any (w : World) {rb p : Nat} {s : ByteArray} (h : RdIs 152 w rb s p) (hs : s.size ≤ 140737488355328) :
    Calls Try.prog 76 #[.pointer (some ⟨rb, 0, none⟩)] w fun e w' => e = .returned (.int .i64 ((s.size : Int) - p)) ∧ ∃ k, w' = w.drewN k := by
  have c0 := cell_blk h.blk 0
  have c1 := cell_blk h.blk 1
  simp at c0 c1
  have hle := h.le
  clear h
  go_enter Try.func76, Try.ntmps76
  go_wp2
  go_quiet (fail)
  go_wp2
  go_ret
  exact ⟨rfl, _, rfl⟩

theorem bytesOf_drop (s : ByteArray) (p : Nat) : bytesOf (s.extract p s.size) = (bytesOf s).drop p := by
  unfold bytesOf
  rw [Lib.extract_data, List.take_of_length_le]
  rw [List.length_drop, Array.length_toList]
  exact Nat.le_refl _

theorem decAt_le (l : List UInt8) : ∀ i acc, (decAt i acc l).2.1 ≤ i + l.length := by
  induction l with
  | nil => intro i acc; simp [decAt]
  | cons b r ih =>
    intro i acc
    rw [decAt]
    split
    · simp
    · split
      · split
        · simp
        · simp
      · have := ih (i + 1) (acc + (b.toNat - 128) * 128 ^ i); simp; omega

/-- The number at a place: how much is read. -/
def numAt (s : ByteArray) (p : Nat) : Nat × Nat × Int := decU ((bytesOf s).drop p)
theorem numAt_le {s : ByteArray} {p : Nat} (h : p ≤ s.size) : p + (numAt s p).2.1 ≤ s.size := by
  have := decAt_le ((bytesOf s).drop p) 0 0
  rw [List.length_drop, bytesOf_length] at this
  have e : (numAt s p).2.1 = (decAt 0 0 ((bytesOf s).drop p)).2.1 := rfl
  omega

theorem number_at (s : ByteArray) (p : Nat) (w : World) (hs : s.size ≤ 140737488355328) :
    Calls Try.prog 79 #[.string (s.extract p s.size)] w fun e w' => e = .returned (.tuple #[.int .u64 ((numAt s p).1 : Int), .int .i64 ((numAt s p).2.1 : Int), .int .i64 (numAt s p).2.2]) ∧ w' = w := by
  have h := number_any (s.extract p s.size) w (by rw [ByteArray.size_extract]; omega)
  rw [bytesOf_drop] at h
  exact h

set_option maxHeartbeats 400000 in
theorem rUint_nil (w : World) : Calls Try.prog 75 #[.pointer none] w fun e w' => e = .returned (.tuple #[.int .u64 0, .int .i64 1]) ∧ w' = w := by
  go_enter Try.func75, Try.ntmps75
  go_wp2
  go_ret2
  exact ⟨rfl, rfl⟩

theorem rd_set {w : World} {rb p : Nat} {s : ByteArray} (h : RdIs 152 w rb s p) (k m : Nat) (hn : p + m ≤ s.size) :
    RdIs 152 ((w.drewN k).setCell ⟨rb, 1, none⟩ (.int .i64 ((p : Int) + (m : Int)))) rb s (p + m) ∧ Kept [rb] w ((w.drewN k).setCell ⟨rb, 1, none⟩ (.int .i64 ((p : Int) + (m : Int)))) := by
  have hb : (w.drewN k).heap[rb]? = some (.cells #[.string s, .int .i64 p] 152 (0, 0)) := h.blk
  refine ⟨⟨?_, hn⟩, (Kept.drewN [rb] w k).trans (Kept.setCell _ _ _) (fun x hx => .inl hx)⟩
  rw [setCell_blk hb]
  rfl

set_option maxHeartbeats 400000 in
theorem rUint_any (w : World) {rb p : Nat} {s : ByteArray} (h : RdIs 152 w rb s p) (hs : s.size ≤ 140737488355328) :
    Calls Try.prog 75 #[.pointer (some ⟨rb, 0, none⟩)] w fun e w' => e = .returned (.tuple #[.int .u64 ((numAt s p).1 : Int), .int .i64 (numAt s p).2.2]) ∧ RdIs 152 w' rb s (p + (numAt s p).2.1) ∧ Kept [rb] w w' := by
  have c0 := cell_blk h.blk 0
  have c1 := cell_blk h.blk 1
  have f1 := free_blk h.blk 1
  simp at c0 c1
  have hle := h.le
  have hn := numAt_le h.le
  go_enter Try.func75, Try.ntmps75
  go_wp2
  go_quiet ((go_at_call 79; exact Calls.quiet_of_same (number_at _ _ _ hs)))
  go_wp2
  go_ret2
  exact ⟨rfl, rd_set h nq (numAt s p).2.1 hn⟩

/-- All binary digits turned. -/
def notN (x : Int) : Int := bits .xor .i64 (-1) x

/-- '^x' of a signed number, as the walk takes it. -/
theorem wpList_not {P : Program} (w : World) {ops : Array Oper} {rest : List Oper} {o : Oper} {a : Act} {Q : Exit → Act → World → Prop} (hgd : o.guard = none) (x : Operand) (t : TypeId)
    (ho : o.op = .unOp .xor t x) (v : Int) (hx : a.eval x = .int .i64 v) (hK : wpList P ops Q rest (a.put o.dst (.int .i64 (notN v))) w) : wpList P ops Q (o :: rest) a w := by
  refine wpList_plain hgd fun _ hK' => ?_
  have hr : (Op.unary .xor (.int .i64 v)).run P w = .ok (.int .i64 (notN v)) w := by simp [Op.unary, go_sem, IntKind.signed, notN]
  unfold Oper.wp
  simp [execOp, ho, hx, hr, Result.andThen]
  exact hK' _ _ hK

theorem ret_i64 {a b : Int} (h : a = b) : Ending.returned (.int .i64 a) = .returned (.int .i64 b) := by rw [h]

theorem decAt_lt (l : List UInt8) : ∀ i acc, i ≤ 9 → acc < 128 ^ i → (decAt i acc l).1 < 18446744073709551616 := by
  induction l with
  | nil => intro i acc _ _; simp [decAt]
  | cons b r ih =>
    intro i acc hi hacc
    have hb := b.toNat_lt
    rw [decAt]
    split
    · simp
    · rename_i h9
      split
      · rename_i hlow
        split
        · simp
        · show acc + b.toNat * 128 ^ i < 18446744073709551616
          by_cases h : i = 9
          · subst h
            have h1 : b.toNat ≤ 1 := by omega
            have h2 : b.toNat * 128 ^ 9 ≤ 1 * 128 ^ 9 := Nat.mul_le_mul_right _ h1
            have h3 : (128 ^ 9 : Nat) + 1 * 128 ^ 9 ≤ 18446744073709551616 := by decide
            exact Nat.lt_of_lt_of_le (Nat.add_lt_add_of_lt_of_le hacc h2) h3
          · have h2 : b.toNat * 128 ^ i ≤ 127 * 128 ^ i := Nat.mul_le_mul_right _ (by omega)
            have h4 : (128 : Nat) ^ i ≤ 128 ^ 8 := Nat.pow_le_pow_right (by decide) (by omega)
            have h5 : (128 : Nat) ^ i + 127 * 128 ^ i = 128 * 128 ^ i := by omega
            have h6 : 128 * 128 ^ i ≤ 128 * 128 ^ 8 := Nat.mul_le_mul_left _ h4
            have h7 : (128 * 128 ^ 8 : Nat) ≤ 18446744073709551616 := by decide
            exact Nat.lt_of_lt_of_le (Nat.add_lt_add_of_lt_of_le hacc h2) (by rw [h5]; exact Nat.le_trans h6 h7)
      · rename_i hlow
        have h9' : i ≠ 9 := fun c => h9 ⟨c, by omega⟩
        have e : b.toNat - 128 = b.toNat % 128 := by omega
        rw [e]
        exact ih (i + 1) _ (by omega) (acc_step acc i b.toNat hacc)

theorem numAt_lt (s : ByteArray) (p : Nat) : ((numAt s p).1 : Int) < 18446744073709551616 := by
  have := decAt_lt ((bytesOf s).drop p) 0 0 (by omega) (by decide)
  have e : (numAt s p).1 = (decAt 0 0 ((bytesOf s).drop p)).1 := rfl
  omega

theorem take_at (s : ByteArray) (p i : Nat) (h : p + i < s.size) : ((bytesOf s).drop p).take (i + 1) = ((bytesOf s).drop p).take i ++ [s[p + i]] := by
  have hl : i < ((bytesOf s).drop p).length := by rw [List.length_drop, bytesOf_length]; omega
  rw [List.take_succ_eq_append_getElem hl, List.getElem_drop]
  rfl

end Go.Proofs.Ytkjalclplfdpmaa
/-
  What the reference's number does: it answers as the program's.
-/
namespace Go.Proofs.Ytkjalclplfdpmaa
open Go.RowKit

theorem decx_end (s : ByteArray) (q k acc : Nat) (h : q = s.size) : decAt k acc ((bytesOf s).drop q) = (0, 0, 10) := by
  rw [List.drop_eq_nil_of_le (by rw [bytesOf_length]; omega)]
  rfl
theorem decx_nine (s : ByteArray) (q acc : Nat) (h : q < s.size) (h1 : 1 < s[q].toNat) : decAt 9 acc ((bytesOf s).drop q) = (0, 0, 11) := by
  rw [drop_at s q h, decAt, if_pos ⟨rfl, h1⟩]
theorem decx_zero (s : ByteArray) (q k acc : Nat) (h : q < s.size) (hk : 0 < k) (h1 : s[q].toNat = 0) : decAt k acc ((bytesOf s).drop q) = (0, 0, 11) := by
  rw [drop_at s q h, decAt, if_neg (by omega), if_pos (by omega), if_pos ⟨hk, h1⟩]
theorem decx_low (s : ByteArray) (q k acc : Nat) (h : q < s.size) (h9 : k = 9 → s[q].toNat ≤ 1) (hlow : s[q].toNat < 128) (h1 : 0 < k → s[q].toNat ≠ 0) :
    decAt k acc ((bytesOf s).drop q) = (acc + s[q].toNat * 128 ^ k, k + 1, 0) := by
  rw [drop_at s q h, decAt, if_neg (fun c => by have := h9 c.1; omega), if_pos hlow, if_neg (fun c => h1 c.1 c.2)]
theorem decx_more (s : ByteArray) (q k acc : Nat) (h : q < s.size) (h9 : k ≠ 9) (hlow : ¬ s[q].toNat < 128) :
    decAt k acc ((bytesOf s).drop q) = decAt (k + 1) (acc + (s[q].toNat - 128) * 128 ^ k) ((bytesOf s).drop (q + 1)) := by
  rw [drop_at s q h, decAt, if_neg (fun c => h9 c.1), if_neg hlow]

/-- One group more, as the reference reckons. -/
theorem xnum_step (acc k x : Nat) (hk : k ≤ 9) (hx : x < 256) (hacc : acc < 128 ^ k) (h9 : k = 9 → x ≤ 1) :
    IntKind.u64.wrap ((acc : Int) + IntKind.u64.wrap ((x : Int) % 128 * 128 ^ k)) = ((acc + (x % 128) * 128 ^ k : Nat) : Int) := by
  have hm : acc + x % 128 * 128 ^ k < 18446744073709551616 := by
    by_cases h : k = 9
    · have := h9 h
      subst h
      have h1 : x % 128 ≤ 1 := by omega
      have h2 : x % 128 * 128 ^ 9 ≤ 1 * 128 ^ 9 := Nat.mul_le_mul_right _ h1
      exact Nat.lt_of_lt_of_le (Nat.add_lt_add_of_lt_of_le hacc h2) (by decide : (128 ^ 9 + 1 * 128 ^ 9 : Nat) ≤ 18446744073709551616)
    · have h2 := acc_step acc k x hacc
      exact Nat.lt_of_lt_of_le h2 (Nat.le_trans (Nat.pow_le_pow_right (by decide) (by omega : k + 1 ≤ 9)) (by decide))
  have e3 : (x : Int) % 128 * 128 ^ k = ((x % 128 * 128 ^ k : Nat) : Int) := by rw [Int.natCast_mul, Int.natCast_pow]; rfl
  have e4 : IntKind.u64.wrap ((x % 128 * 128 ^ k : Nat) : Int) = ((x % 128 * 128 ^ k : Nat) : Int) := by rw [IntKind.wrap_u64]; omega
  rw [e3, e4, IntKind.wrap_u64, ← Int.natCast_add]
  omega

theorem xfac_step (k : Nat) (hk : k ≤ 8) : IntKind.u64.wrap (128 ^ k * 128) = ((128 ^ (k + 1) : Nat) : Int) := by
  have hm : (128 : Nat) ^ (k + 1) < 18446744073709551616 := Nat.lt_of_le_of_lt (Nat.pow_le_pow_right (by decide) (by omega : k + 1 ≤ 9)) (by decide)
  have e : (128 : Int) ^ k * 128 = ((128 ^ (k + 1) : Nat) : Int) := by rw [Nat.pow_succ, Int.natCast_mul, Int.natCast_pow]; rfl
  rw [e]
  generalize 128 ^ (k + 1) = z at *
  rw [IntKind.wrap_u64]
  omega

set_option maxHeartbeats 4000000 in
theorem xnumber_any (w : World) {rb p : Nat} {s : ByteArray} (h : RdIs 96 w rb s p) (hs : s.size ≤ 140737488355328) :
    Calls Try.prog 45 #[.pointer (some ⟨rb, 0, none⟩)] w fun e w' => e = .returned (.tuple #[.int .u64 ((numAt s p).1 : Int), .int .i64 ((numAt s p).2.1 : Int), .int .i64 (numAt s p).2.2]) ∧ ∃ j, w' = w.drewN j := by
  have c0 := cell_blk h.blk 0
  have c1 := cell_blk h.blk 1
  simp at c0 c1
  have hle := h.le
  clear h
  go_enter Try.func45, Try.ntmps45
  go_wp2
  go_loopw [5, 6, 7] (fun nv fv kv wr => ∃ (k acc j : Nat), k ≤ 9 ∧ p + k ≤ s.size ∧ acc < 128 ^ k ∧ nv = .int .u64 (acc : Int) ∧ fv = .int .u64 ((128 ^ k : Nat) : Int) ∧ kv = .int .i64 (k : Int) ∧ Hid (numAt s p = decAt k acc ((bytesOf s).drop (p + k))) ∧ wr = w.drewN j)
    (fun _ _ kv _ => 10 - (intOf kv).toNat)
  case atStart => exact ⟨0, 0, 0, by omega, by omega, by decide, rfl, rfl, rfl, rfl, rfl⟩
  case round =>
    obtain ⟨k, acc, j, hk9, hks, hacc, rfl, rfl, rfl, HD, rfl⟩ := hrel
    have hk10 : (k : Int) < 10 := by omega
    have hwr : IntKind.i64.wrap ((p : Int) + (k : Int)) = (p : Int) + (k : Int) := by rw [IntKind.wrap_i64]; omega
    have hp0 : (0 : Int) ≤ (p : Int) + (k : Int) := by omega
    have htn : ((p : Int) + (k : Int)).toNat = p + k := by omega
    have HA : Hid (acc < 128 ^ k) := hacc
    clear hacc
    by_cases hend : p + k = s.size
    · have hq : ((p : Int) + (k : Int) == (s.size : Int)) = true := by simp; omega
      have HR : Hid (numAt s p = (0, 0, 10)) := HD.out.trans (decx_end s (p + k) k acc hend)
      clear hend HD
      go_wp2
      go_quiet (fail)
      go_wp2
      go_ret3
      exact ⟨by rw [HR.out]; rfl, _, World.drewN_drewN _ _ _⟩
    · have hlt : p + k < s.size := by omega
      have hlt' : (p : Int) + (k : Int) < (s.size : Int) := by omega
      have hq : ((p : Int) + (k : Int) == (s.size : Int)) = false := by simp; omega
      have hx := s[p + k].toNat_lt
      by_cases hA : k = 9 ∧ 1 < s[p + k].toNat
      · have HR : Hid (numAt s p = (0, 0, 11)) := by
          obtain ⟨rfl, h1⟩ := hA
          exact HD.out.trans (decx_nine s (p + 9) acc hlt h1)
        have h9' : ((k : Int) == 9) = true := by simp; omega
        have HX : Hid (1 < s[p + k].toNat) := hA.2
        clear hA hx HD
        go_wp2
        go_quiet (fail)
        go_wp2
        go_quiet (fail)
        go_upto_region 9 with fail
        have hb : decide ((1 : Int) < ((s[p + k].toNat : Nat) : Int)) = true := by simp; have := HX.out; omega
        go_wp2
        go_ret3
        exact ⟨by rw [HR.out]; rfl, _, rfl⟩
      · have HN : Hid (k = 9 → s[p + k].toNat ≤ 1) := fun e => by omega
        have HS : Hid _ := xnum_step acc k s[p + k].toNat hk9 hx HA.out HN.out
        by_cases hlow : s[p + k].toNat < 128
        · have HB : Hid (s[p + k].toNat < 128) := hlow
          by_cases hz : 0 < k ∧ s[p + k].toNat = 0
          · have HR : Hid (numAt s p = (0, 0, 11)) := HD.out.trans (decx_zero s (p + k) k acc hlt hz.1 hz.2)
            have hk0 : (0 : Int) < (k : Int) := by omega
            have HZ : Hid (s[p + k].toNat = 0) := hz.2
            clear hlow hx hA hz HD
            by_cases h9 : k = 9
            all_goals
              first
                | have h9' : ((k : Int) == 9) = true := by (simp; omega)
                | have h9' : ((k : Int) == 9) = false := by (simp; omega)
              clear h9
              go_wp2
              go_quiet (fail)
              go_wp2
              go_quiet (fail)
              go_upto_region 9 with fail
              have hb : decide ((1 : Int) < ((s[p + k].toNat : Nat) : Int)) = false := by simp; have := HZ.out; omega
              go_upto_region 11 with fail
              clear hb
              go_upto_region 13 with fail
              have hb : decide (((s[p + k].toNat : Nat) : Int) < 128) = true := by simp; have := HB.out; omega
              go_upto_region 14 with fail
              clear hb
              have hb : (((s[p + k].toNat : Nat) : Int) == 0) = true := by simp; have := HZ.out; omega
              go_wp2
              go_ret3
              exact ⟨by rw [HR.out]; rfl, _, rfl⟩
          · have HR : Hid (numAt s p = (acc + s[p + k].toNat * 128 ^ k, k + 1, 0)) := HD.out.trans (decx_low s (p + k) k acc hlt HN.out hlow (fun h => by omega))
            have HZ : Hid (¬ (0 < k ∧ s[p + k].toNat = 0)) := hz
            clear hlow hx hA hz HD
            rcases (show k = 0 ∨ (0 < k ∧ k ≠ 9) ∨ k = 9 by omega) with hk | hk | hk
            · have h9' : ((k : Int) == 9) = false := by simp; omega
              have hkz : (k : Int) < 1 := by omega
              clear hk
              go_wp2
              go_quiet (fail)
              go_wp2
              go_quiet (fail)
              go_upto_region 13 with fail
              have hb : decide (((s[p + k].toNat : Nat) : Int) < 128) = true := by simp; have := HB.out; omega
              go_upto_region 14 with fail
              clear hb
              obtain ⟨bz, hbz⟩ : ∃ b : Bool, (((s[p + k].toNat : Nat) : Int) == 0) = b := ⟨_, rfl⟩
              cases bz
              all_goals
                go_wp2
                go_ret3
                refine ⟨?_, _, rfl⟩
                rw [HR.out]
                refine ret_num (HS.out.trans ?_) (show (k : Int) + 1 = ((k + 1 : Nat) : Int) by omega) rfl
                rw [Nat.mod_eq_of_lt HB.out]
            · have h9' : ((k : Int) == 9) = false := by simp; omega
              have HZ0 : Hid ((((s[p + k].toNat : Nat) : Int) == 0) = false) := by show _ = _; have := HZ.out; simp; omega
              clear hk
              go_wp2
              go_quiet (fail)
              go_wp2
              go_quiet (fail)
              go_upto_region 13 with fail
              have hb : decide (((s[p + k].toNat : Nat) : Int) < 128) = true := by simp; have := HB.out; omega
              go_upto_region 14 with fail
              clear hb
              have hb := HZ0.out
              go_wp2
              go_ret3
              refine ⟨?_, _, rfl⟩
              rw [HR.out]
              refine ret_num (HS.out.trans ?_) (show (k : Int) + 1 = ((k + 1 : Nat) : Int) by omega) rfl
              rw [Nat.mod_eq_of_lt HB.out]
            · have h9' : ((k : Int) == 9) = true := by simp; omega
              have HZ0 : Hid ((((s[p + k].toNat : Nat) : Int) == 0) = false) := by show _ = _; have := HZ.out; simp; omega
              have H1 : Hid (s[p + k].toNat ≤ 1) := HN.out hk
              clear hk
              go_wp2
              go_quiet (fail)
              go_wp2
              go_quiet (fail)
              go_upto_region 9 with fail
              have hb : decide ((1 : Int) < ((s[p + k].toNat : Nat) : Int)) = false := by simp; have := H1.out; omega
              go_upto_region 11 with fail
              clear hb
              go_upto_region 13 with fail
              have hb : decide (((s[p + k].toNat : Nat) : Int) < 128) = true := by simp; have := HB.out; omega
              go_upto_region 14 with fail
              clear hb
              have hb := HZ0.out
              go_wp2
              go_ret3
              refine ⟨?_, _, rfl⟩
              rw [HR.out]
              refine ret_num (HS.out.trans ?_) (show (k : Int) + 1 = ((k + 1 : Nat) : Int) by omega) rfl
              rw [Nat.mod_eq_of_lt HB.out]
        · have hk8 : k ≤ 8 := by omega
          have h9' : ((k : Int) == 9) = false := by simp; omega
          have HF : Hid _ := xfac_step k hk8
          have HB : Hid (¬ s[p + k].toNat < 128) := hlow
          have HR : Hid (numAt s p = decAt (k + 1) (acc + (s[p + k].toNat % 128) * 128 ^ k) ((bytesOf s).drop (p + (k + 1)))) := by
            have e : s[p + k].toNat % 128 = s[p + k].toNat - 128 := by omega
            show _ = _
            rw [e, ← Nat.add_assoc]
            exact HD.out.trans (decx_more s (p + k) k acc hlt (by omega) hlow)
          clear hlow hx hA HD
          go_wp2
          go_quiet (fail)
          go_wp2
          go_quiet (fail)
          go_upto_region 13 with fail
          have hb : decide (((s[p + k].toNat : Nat) : Int) < 128) = false := by simp; have := HB.out; omega
          go_wp2
          go_roundw
          case rel => exact ⟨k + 1, _, _, by omega, by omega, acc_step acc k s[p + k].toNat HA.out, congrArg (Value.int .u64) HS.out, congrArg (Value.int .u64) HF.out, by go_num, HR, rfl⟩
          case measure => simp [intOf]; omega

end Go.Proofs.Ytkjalclplfdpmaa
/-
  What the reference's reader does: it answers as the program's.
-/
namespace Go.Proofs.Ytkjalclplfdpmaa
open Go.RowKit

theorem xrd_new (w : World) (s : ByteArray) : RdIs 96 (w.alloc (.cells #[.string s, .int .i64 0] 96)) w.heap.size s 0 :=
  ⟨heap_alloc_new w _, Nat.zero_le _⟩

theorem xrd_set {w : World} {rb p : Nat} {s : ByteArray} (h : RdIs 96 w rb s p) (k m : Nat) (hn : p + m ≤ s.size) :
    RdIs 96 ((w.drewN k).setCell ⟨rb, 1, none⟩ (.int .i64 ((p : Int) + (m : Int)))) rb s (p + m) ∧ Kept [rb] w ((w.drewN k).setCell ⟨rb, 1, none⟩ (.int .i64 ((p : Int) + (m : Int)))) := by
  have hb : (w.drewN k).heap[rb]? = some (.cells #[.string s, .int .i64 p] 96 (0, 0)) := h.blk
  refine ⟨⟨?_, hn⟩, (Kept.drewN [rb] w k).trans (Kept.setCell _ _ _) (fun x hx => .inl hx)⟩
  rw [setCell_blk hb]
  rfl

theorem XRd.drewN {w : World} {rb p : Nat} {s : ByteArray} (h : RdIs 96 w rb s p) (k : Nat) : RdIs 96 (w.drewN k) rb s p := ⟨h.blk, h.le⟩

set_option maxHeartbeats 400000 in
theorem xUint_any (w : World) {rb p : Nat} {s : ByteArray} (h : RdIs 96 w rb s p) (hs : s.size ≤ 140737488355328) :
    Calls Try.prog 37 #[.pointer (some ⟨rb, 0, none⟩)] w fun e w' => e = .returned (.tuple #[.int .u64 ((numAt s p).1 : Int), .int .i64 (numAt s p).2.2]) ∧ RdIs 96 w' rb s (p + (numAt s p).2.1) ∧ Kept [rb] w w' := by
  have c1 := cell_blk h.blk 1
  have f1 := free_blk h.blk 1
  simp at c1
  have hn := numAt_le h.le
  go_enter Try.func37, Try.ntmps37
  go_wp2_with (go_at_call 45; refine (xnumber_any _ h hs).mono ?_; rintro e w1 ⟨rfl, j, rfl⟩)
  go_ret2
  exact ⟨rfl, xrd_set h j (numAt s p).2.1 hn⟩

end Go.Proofs.Ytkjalclplfdpmaa
