/-
  What Uint, Int, Fixed, Text and Line of a buffer do.
-/
import Derived.Test.YtfbfdfenfcjolaaPut
import Derived.Test.YtfbfdfenfcjolaaShelf
import Derived.Test.YtfbfdfenfcjolaaAppend
namespace Go.Proofs.Ytfbfdfenfcjolaa
open Go.RowKit

theorem Moved.mono {w w1 : World} {ao ao' : Option Addr} (h : Moved w1 ao ao') (hs : w.heap.size ≤ w1.heap.size) : Moved w ao ao' :=
  h.imp id (fun k a ha => Nat.le_trans hs (k a ha))

/-- A slice that owns bytes, at least one: where they lie. -/
theorem row_src {w : World} {base : Nat} {e : TypeId} {ao : Option Addr} {cap : Nat} {ds : List UInt8} (h : w.ownsRow base e 1 (.slice ao ds.length cap) ds.length (cellsOf ds)) (h0 : 0 < ds.length) :
    ∃ g, ao = some ⟨g, 0, none⟩ ∧ base ≤ g ∧ ∀ j u, (cellsOf ds)[j]? = some u → w.cell? ((⟨g, 0, none⟩ : Addr).add j) = some u := by
  obtain ⟨g, cap', hv, hb, _⟩ := h.form h0
  simp at hv
  obtain ⟨rfl, rfl⟩ := hv
  exact ⟨g, rfl, hb, h.cells rfl⟩

set_option maxHeartbeats 400000 in
theorem bUint_nil (n : Nat) (w : World) (hn : (n : Int) < 18446744073709551616) :
    Calls Try.prog 30 #[.pointer none, .int .u64 (n : Int)] w fun e w' => e = .returned (.int .i64 1) ∧ Kept [] w w' := by
  go_enter Try.func30, Try.ntmps30
  go_wp2_with (first | (go_at_call 49; refine (groups_any n _ hn).mono ?_; rintro e w1 ⟨ao, cap, rfl, hr, hk⟩) | (go_at_call 48; refine (put_nil _ _ _ _).mono ?_; rintro e w2 ⟨rfl, rfl⟩))
  go_ret
  exact ⟨rfl, hk⟩

/-- What a step that puts ds into a buffer leaves. -/
def PutsTo (w w' : World) (bb : Nat) (ao : Option Addr) (bs ds : List UInt8) (room : Nat) : Prop :=
  ∃ ao' cap', BufIs 70 w' bb ao' cap' (after room bs ds) room ∧ Kept (bb :: rowOf ao) w w' ∧ Moved w ao ao'

theorem PutsTo.ahead {w w1 w' : World} {bb : Nat} {ao : Option Addr} {bs ds : List UInt8} {room : Nat} (hk : Kept [] w w1) (h : PutsTo w1 w' bb ao bs ds room) : PutsTo w w' bb ao bs ds room := by
  obtain ⟨ao', cap', hB, hK, hM⟩ := h
  exact ⟨ao', cap', hB, (hk.mono (by simp)).trans hK (fun x hx => .inl hx), hM.mono hk.size⟩

set_option maxHeartbeats 400000 in
theorem bUint_any (n : Nat) (w : World) (hn : (n : Int) < 18446744073709551616) {bb : Nat} {ao : Option Addr} {cap : Nat} {bs : List UInt8} {room : Nat} (h : BufIs 70 w bb ao cap bs room) :
    Calls Try.prog 30 #[.pointer (some ⟨bb, 0, none⟩), .int .u64 (n : Int)] w fun e w' => e = .returned (.int .i64 (putCode room bs (encU n))) ∧ PutsTo w w' bb ao bs (encU n) room := by
  have h1 := encU_pos n
  go_enter Try.func30, Try.ntmps30
  go_wp2_with (first | (go_at_call 49; refine (groups_any n _ hn).mono ?_; rintro e w1 ⟨ao1, cap1, rfl, hr, hk⟩; obtain ⟨g, rfl, _, hc⟩ := row_src hr h1; have h2 := h.kept hk (by simp) (by simp); clear hr) | (go_at_call 48; refine (put_any _ h2 _ _ _ hc h1).mono ?_; rintro e w2 ⟨rfl, hp⟩))
  go_ret
  exact ⟨rfl, PutsTo.ahead hk hp⟩

theorem ret_u64 {a b : Int} (h : a = b) : Ending.returned (.int .u64 a) = .returned (.int .u64 b) := by rw [h]

set_option maxHeartbeats 400000 in
theorem fold_any (n : Int) (w : World) (h0 : -9223372036854775808 ≤ n) (h1 : n ≤ 9223372036854775807) :
    Calls Try.prog 50 #[.int .i64 n] w fun e w' => e = .returned (.int .u64 ((foldN n : Nat) : Int)) ∧ w' = w := by
  by_cases a : n < 0
  · have hb := fold_bits h0 a
    have HB : Hid (bits .xor .u64 IntKind.u64.max (IntKind.u64.wrap (IntKind.u64.wrap n * 2)) = ((foldN n : Nat) : Int)) := hb
    clear hb
    go_enter Try.func50, Try.ntmps50
    go_wp2
    go_ret
    exact ⟨ret_u64 HB.out, rfl⟩
  · have a' : 0 ≤ n := by omega
    go_enter Try.func50, Try.ntmps50
    go_wp2
    go_ret
    exact ⟨ret_u64 (foldN_pos a').symm, rfl⟩

set_option maxHeartbeats 400000 in
theorem bInt_nil (n : Int) (w : World) (h0 : -9223372036854775808 ≤ n) (h1 : n ≤ 9223372036854775807) :
    Calls Try.prog 31 #[.pointer none, .int .i64 n] w fun e w' => e = .returned (.int .i64 1) ∧ Kept [] w w' := by
  go_enter Try.func31, Try.ntmps31
  go_wp2_with (first | (go_at_call 50; refine (fold_any n _ h0 h1).mono ?_; rintro e w1 ⟨rfl, rfl⟩) | (go_at_call 30; refine (bUint_nil _ _ (foldN_lt h0 h1)).mono ?_; rintro e w2 ⟨rfl, hk⟩))
  go_ret
  exact ⟨rfl, hk⟩

set_option maxHeartbeats 400000 in
theorem bInt_any (n : Int) (w : World) (h0 : -9223372036854775808 ≤ n) (h1 : n ≤ 9223372036854775807) {bb : Nat} {ao : Option Addr} {cap : Nat} {bs : List UInt8} {room : Nat} (h : BufIs 70 w bb ao cap bs room) :
    Calls Try.prog 31 #[.pointer (some ⟨bb, 0, none⟩), .int .i64 n] w fun e w' => e = .returned (.int .i64 (putCode room bs (encU (foldN n)))) ∧ PutsTo w w' bb ao bs (encU (foldN n)) room := by
  go_enter Try.func31, Try.ntmps31
  go_wp2_with (first | (go_at_call 50; refine (fold_any n _ h0 h1).mono ?_; rintro e w1 ⟨rfl, rfl⟩) | (go_at_call 30; refine (bUint_any _ _ (foldN_lt h0 h1) h).mono ?_; rintro e w2 ⟨rfl, hp⟩))
  go_ret
  exact ⟨rfl, hp⟩

set_option maxHeartbeats 400000 in
theorem isSize_any (n : Int) (w : World) : Calls Try.prog 43 #[.int .i64 n] w fun e w' => e = .returned (.bool (isSizeB n)) ∧ w' = w := by
  go_enter Try.func43, Try.ntmps43
  go_wp2
  all_goals (go_ret; exact ⟨by simp [isSizeB, *], rfl⟩)

set_option maxHeartbeats 400000 in
theorem bFixed_arg (b : Option Addr) (n size : Int) (w : World) (hs : isSizeB size = false) :
    Calls Try.prog 32 #[.pointer b, .int .u64 n, .int .i64 size] w fun e w' => e = .returned (.int .i64 1) ∧ w' = w := by
  go_enter Try.func32, Try.ntmps32
  go_wp2_with (go_at_call 43; refine (isSize_any size _).mono ?_; rw [hs]; rintro e w1 ⟨rfl, rfl⟩)
  go_ret
  exact ⟨rfl, rfl⟩

set_option maxHeartbeats 400000 in
theorem bFixed_big (b : Option Addr) (n : Nat) (k : Nat) (w : World) (hs : isSizeB (k : Int) = true) (hk : (k : Int) ≤ 8) (hb : ((n : Int) / 2 ^ (8 * k) != 0) = true) :
    Calls Try.prog 32 #[.pointer b, .int .u64 (n : Int), .int .i64 (k : Int)] w fun e w' => e = .returned (.int .i64 1) ∧ w' = w := by
  go_enter Try.func32, Try.ntmps32
  go_wp2_with (go_at_call 43; refine (isSize_any _ _).mono ?_; rw [hs]; rintro e w1 ⟨rfl, rfl⟩)
  go_ret
  exact ⟨rfl, rfl⟩

/-- What putting a fixed number's bytes, wherever they lie, does. -/
def FixedPut (b : Option Addr) (n k : Nat) (w : World) (R : Int → World → Prop) : Prop :=
  ∀ (w1 : World) (g cap : Nat), Kept [] w w1 → (∀ j u, (cellsOf (fixedN k n))[j]? = some u → w1.cell? ((⟨g, 0, none⟩ : Addr).add j) = some u) →
    Calls Try.prog 48 #[.pointer b, .slice (some ⟨g, 0, none⟩) k cap] w1 fun e w' => ∃ c, e = .returned (.int .i64 c) ∧ R c w'

set_option maxHeartbeats 800000 in
theorem bFixed_with (b : Option Addr) (n : Nat) (k : Nat) (w : World) (hs : isSizeB (k : Int) = true) (hk : (k : Int) ≤ 8) (hk0 : 0 < k) (hb : ((n : Int) / 2 ^ (8 * k) != 0) = false) (R : Int → World → Prop)
    (hput : FixedPut b n k w R) :
    Calls Try.prog 32 #[.pointer b, .int .u64 (n : Int), .int .i64 (k : Int)] w fun e w' => ∃ c, e = .returned (.int .i64 c) ∧ R c w' := by
  obtain ⟨i0, hi, hz0, hz1, hz2⟩ := info_parts Try.infoU8
  go_enter Try.func32, Try.ntmps32
  go_wp2_with (go_at_call 43; refine (isSize_any _ _).mono ?_; rw [hs]; rintro e w1 ⟨rfl, hw1⟩; subst hw1)
  go_loopw [7, 8, 20] (fun dv _ cv wr => ∃ (i : Nat) (ao : Option Addr) (cap : Nat), i ≤ k ∧ cv = .int .i64 (i : Int) ∧ dv = .slice ao (fixedN i n).length cap ∧
      wr.ownsRow w1.heap.size 5 1 (.slice ao (fixedN i n).length cap) (fixedN i n).length (cellsOf (fixedN i n)) ∧ Kept [] w1 wr)
    (fun _ _ cv _ => k - (intOf cv).toNat)
  case atStart => exact ⟨0, none, 0, Nat.zero_le _, rfl, rfl, World.ownsRow_nil _ _ _ _, Kept.refl _ _⟩
  case round =>
    obtain ⟨i, ao, cap, hik, rfl, rfl, hown, hkk⟩ := hrel
    have hfl := fixedN_length i n
    by_cases hlt : i < k
    · have hlt' : (i : Int) < (k : Int) := by omega
      have HF : Hid ((fixedN i n).length = i) := hfl
      clear hfl
      go_wp2_with (first | (at_builtin; refine wpList_append_own _ rfl _ _ 68 rfl w1.heap.size 5 i0 (.int .u8 0) 1 1 Try.underlying68 hi hz0 hz1 hz2 rfl (by decide) _ _ _ rfl (hown.alloc _) ⟨wr.heap.size, 0, none⟩ 1 1 [.int .u8 (((n : Int) / 2 ^ (8 * i)) % 256)] rfl rfl (cell_one_new _ _ _) ?d2 ?d3 ?d4 ?d5 ?_) | fail)
      case d2 => intro u hu; simp at hu; subst hu; rfl
      case d3 => have := HF.out; unfold maxLen; omega
      case d4 => have := HF.out; omega
      case d5 => have := hkk.size; simp; omega
      intro v' w2 hown2 hg2 _
      obtain ⟨ao', cap', rfl, hown3, hk3⟩ := grown_one (fixed_byte n i) hown hkk hown2 hg2
      rw [← fixedN_succ] at hown3 ⊢
      clear hown2 hg2 hown hkk
      go_wp2
      go_roundw
      case rel => exact ⟨i + 1, ao', cap', by omega, by go_num, rfl, hown3, hk3⟩
      case measure => simp [intOf]; omega
    · obtain rfl : i = k := by omega
      obtain ⟨g, rfl, _, hc⟩ := row_src hown (by omega)
      have HC : Hid (∀ j u, (cellsOf (fixedN i n))[j]? = some u → wr.cell? ((⟨g, 0, none⟩ : Addr).add j) = some u) := hc
      clear hc hown
      go_wp2_with (go_at_call 48; refine (hput wr g cap hkk HC.out).mono ?_; rintro e w2 ⟨c, rfl, hR⟩)
      go_ret
      exact ⟨c, rfl, hR⟩

theorem bFixed_nil (n : Nat) (k : Nat) (w : World) (hs : isSizeB (k : Int) = true) :
    Calls Try.prog 32 #[.pointer none, .int .u64 (n : Int), .int .i64 (k : Int)] w fun e w' => e = .returned (.int .i64 1) ∧ Kept [] w w' := by
  have hk := isSizeB_le hs
  cases hb : ((n : Int) / 2 ^ (8 * k) != 0) with
  | true => exact (bFixed_big none n k w hs (by omega) hb).mono fun e w' ⟨he, hw⟩ => ⟨he, by rw [hw]; exact Kept.refl _ _⟩
  | false =>
    refine (bFixed_with none n k w hs (by omega) (by omega) hb (fun c w' => c = 1 ∧ Kept [] w w') ?_).mono ?_
    · intro w1 g cap hk1 _
      exact (put_nil w1 _ _ _).mono fun e w' ⟨he, hw⟩ => ⟨1, he, rfl, by rw [hw]; exact hk1⟩
    · rintro e w' ⟨c, rfl, rfl, hk2⟩
      exact ⟨rfl, hk2⟩

theorem bFixed_any (n : Nat) (k : Nat) (w : World) (hs : isSizeB (k : Int) = true) (hb : ((n : Int) / 2 ^ (8 * k) != 0) = false) {bb : Nat} {ao : Option Addr} {cap : Nat} {bs : List UInt8} {room : Nat} (h : BufIs 70 w bb ao cap bs room) :
    Calls Try.prog 32 #[.pointer (some ⟨bb, 0, none⟩), .int .u64 (n : Int), .int .i64 (k : Int)] w fun e w' => e = .returned (.int .i64 (putCode room bs (fixedN k n))) ∧ PutsTo w w' bb ao bs (fixedN k n) room := by
  have hk := isSizeB_le hs
  refine (bFixed_with _ n k w hs (by omega) (by omega) hb (fun c w' => c = putCode room bs (fixedN k n) ∧ PutsTo w w' bb ao bs (fixedN k n) room) ?_).mono ?_
  · intro w1 g cap1 hk1 hc
    have hp := put_any w1 (h.kept hk1 (by simp) (by simp)) ⟨g, 0, none⟩ cap1 (fixedN k n) hc (by rw [fixedN_length]; omega)
    rw [fixedN_length] at hp
    exact hp.mono fun e w' ⟨he, hp⟩ => ⟨_, he, rfl, PutsTo.ahead hk1 hp⟩
  · rintro e w' ⟨c, rfl, rfl, hk2⟩
    exact ⟨rfl, hk2⟩

theorem src_text (w : World) (s : ByteArray) : Src Try.prog 1 9 (.string s) (bytesOf s).length (cellsOf (bytesOf s)) w := by
  have h := Src.ofString (P := Try.prog) w Try.underlying9 s
  rw [bytesOf_length]
  exact h

set_option maxHeartbeats 400000 in
theorem bText_nil (s : ByteArray) (w : World) (hs : s.size ≤ 9223372036854775807) :
    Calls Try.prog 33 #[.pointer none, .string s] w fun e w' => e = .returned (.int .i64 1) ∧ Kept [] w w' := by
  go_enter Try.func33, Try.ntmps33
  go_wp2_with (first | (go_at_call 49; refine (groups_any s.size _ (by omega)).mono ?_; rintro e w1 ⟨ao1, cap1, rfl, hr, hk⟩) | (go_at_call 51; refine (fits_nil _ _).mono ?_; rintro e w2 ⟨rfl, rfl⟩))
  go_ret
  exact ⟨rfl, hk⟩

/-- A text's bytes in a buffer. -/
def textN (s : ByteArray) : List UInt8 := encU s.size ++ bytesOf s

theorem Kept.below_row {w w1 w2 : World} (hk : Kept [] w w1) (hb : Below w.heap.size w1 w2) : Kept [] w w2 :=
  Kept.of_below (hk.below.trans hb)

set_option maxHeartbeats 400000 in
theorem bText_no (s : ByteArray) (w : World) (hs : s.size ≤ 140737488355328) {bb : Nat} {ao : Option Addr} {cap : Nat} {bs : List UInt8} {room : Nat} (h : BufIs 70 w bb ao cap bs room) (hno : ¬ (textN s).length ≤ room - bs.length) :
    Calls Try.prog 33 #[.pointer (some ⟨bb, 0, none⟩), .string s] w fun e w' => e = .returned (.int .i64 12) ∧ Kept [] w w' := by
  have h10 : (encU s.size).length ≤ 10 := encU_ten (by omega)
  have hle := h.le
  have hcode : fitsCode room bs.length (((encU s.size).length : Int) + (s.size : Int)) = 12 := by
    unfold fitsCode; rw [if_neg]; unfold textN at hno; rw [List.length_append, bytesOf_length] at hno; omega
  have HC : Hid (fitsCode room bs.length (((encU s.size).length : Int) + (s.size : Int)) = 12) := hcode
  clear hcode
  go_enter Try.func33, Try.ntmps33
  go_wp2_with (first | (go_at_call 49; refine (groups_any s.size _ (by omega)).mono ?_; rintro e w1 ⟨ao1, cap1, rfl, hr, hk⟩; have h2 := h.kept hk (by simp) (by simp)) | (go_at_call 51; refine (fits_any _ _ h2).mono ?_; rw [HC.out]; rintro e w2 ⟨rfl, k, rfl⟩))
  go_ret
  exact ⟨rfl, hk.trans (Kept.drewN [] _ _) (by simp)⟩

set_option maxHeartbeats 400000 in
theorem bText_yes (s : ByteArray) (w : World) (hs : s.size ≤ 140737488355328) {bb : Nat} {ao : Option Addr} {cap : Nat} {bs : List UInt8} {room : Nat} (h : BufIs 70 w bb ao cap bs room) (hyes : (textN s).length ≤ room - bs.length) :
    Calls Try.prog 33 #[.pointer (some ⟨bb, 0, none⟩), .string s] w fun e w' => e = .returned (.int .i64 (putCode room bs (textN s))) ∧ PutsTo w w' bb ao bs (textN s) room := by
  obtain ⟨i0, hi, hz0, hz1, hz2⟩ := info_parts Try.infoU8
  have h10 : (encU s.size).length ≤ 10 := encU_ten (by omega)
  have h1 := encU_pos s.size
  have hle := h.le
  have hrm := h.rm
  have htl : 0 < (textN s).length := by unfold textN; rw [List.length_append]; omega
  have hcode : fitsCode room bs.length (((encU s.size).length : Int) + (s.size : Int)) = 0 := by
    unfold fitsCode; rw [if_pos]; unfold textN at hyes; rw [List.length_append, bytesOf_length] at hyes; omega
  have HC : Hid (fitsCode room bs.length (((encU s.size).length : Int) + (s.size : Int)) = 0) := hcode
  clear hcode
  go_enter Try.func33, Try.ntmps33
  go_wp2_with (first | (go_at_call 49; refine (groups_any s.size _ (by omega)).mono ?_; rintro e w1 ⟨ao1, cap1, rfl, hr, hk⟩; obtain ⟨g, rfl, _, _⟩ := row_src hr h1; have hra := RowAt.of_own hr; have hks := hk.size; clear hr; have h2 := h.kept hk (by simp) (by simp)) | (go_at_call 51; refine (fits_any _ _ h2).mono ?_; rw [HC.out]; rintro e w2 ⟨rfl, k, rfl⟩) | (at_builtin; refine wpList_append_row _ rfl _ _ 68 9 rfl 5 i0 Try.underlying68 hi hz0 hz1 hz2 w.heap.size g cap1 (encU s.size) (bytesOf s) rfl ?_ ?_ (.string s) rfl ?_ ?_ ?_))
  · exact ⟨hra.lo, hra.blk⟩
  · simpa using hks
  · exact src_text _ s
  · have : (textN s).length = (encU s.size).length + (bytesOf s).length := by simp [textN]
    omega
  · intro g' cap' w3 hc hb
    have hT : (encU s.size).length + (bytesOf s).length = (textN s).length := by simp [textN]
    rw [show encU s.size ++ bytesOf s = textN s from rfl] at hc
    rw [hT]
    have hc' : ∀ j u, (cellsOf (textN s))[j]? = some u → w3.cell? ((⟨g', 0, none⟩ : Addr).add j) = some u := fun j u hu => by rw [add_block]; exact hc j u hu
    have hk3 : Kept [] w w3 := (hk.trans (Kept.drewN [] _ k) (by simp)).below_row hb
    have h3 := h.kept hk3 (by simp) (by simp)
    have HC' : Hid (∀ j u, (cellsOf (textN s))[j]? = some u → w3.cell? ((⟨g', 0, none⟩ : Addr).add j) = some u) := hc'
    clear hc hc' hb hT h2 hra HC
    go_wp2_with (go_at_call 48; refine (put_any _ h3 _ _ (textN s) HC'.out htl).mono ?_; rintro e w4 ⟨rfl, hp⟩)
    go_ret
    exact ⟨rfl, PutsTo.ahead hk3 hp⟩

theorem PutsTo.none {w w' : World} {bb : Nat} {ao : Option Addr} {cap : Nat} {bs ds : List UInt8} {room : Nat} (h : BufIs 70 w bb ao cap bs room) (hno : ¬ ds.length ≤ room - bs.length) (hk : Kept [] w w') : PutsTo w w' bb ao bs ds room :=
  ⟨ao, cap, by rw [show after room bs ds = bs from if_neg hno]; exact h.kept hk (by simp) (by simp), hk.mono (by simp), .inl rfl⟩

theorem bText_any (s : ByteArray) (w : World) (hs : s.size ≤ 140737488355328) {bb : Nat} {ao : Option Addr} {cap : Nat} {bs : List UInt8} {room : Nat} (h : BufIs 70 w bb ao cap bs room) :
    Calls Try.prog 33 #[.pointer (some ⟨bb, 0, none⟩), .string s] w fun e w' => e = .returned (.int .i64 (putCode room bs (textN s))) ∧ PutsTo w w' bb ao bs (textN s) room := by
  by_cases hfit : (textN s).length ≤ room - bs.length
  · exact bText_yes s w hs h hfit
  · exact (bText_no s w hs h hfit).mono fun e w' ⟨he, hk⟩ => ⟨by rw [he, show putCode room bs (textN s) = 12 from if_neg hfit], PutsTo.none h hfit hk⟩

/-- Has a text a byte 10? -/
def hasLF (s : ByteArray) : Bool := (bytesOf s).any (· == 10)

theorem index_any (l : List UInt8) (c : UInt8) : decide (0 ≤ Lib.indexByte l c) = l.any (· == c) := by
  induction l with
  | nil => rfl
  | cons b l ih =>
    have hge := Lib.indexByte_ge l c
    rw [List.any_cons, ← ih, Lib.indexByte]
    by_cases hb : (b == c) = true
    · rw [if_pos hb, hb]; rfl
    · rw [if_neg hb]
      have hb' : (b == c) = false := by simpa using hb
      rw [hb', Bool.false_or]
      by_cases hi : (Lib.indexByte l c == -1) = true
      · rw [if_pos hi]
        have : Lib.indexByte l c = -1 := by simpa using hi
        rw [this]
      · rw [if_neg hi]
        have : ¬ Lib.indexByte l c = -1 := by simpa using hi
        have h1 : (0 : Int) ≤ Lib.indexByte l c := by omega
        have h2 : (0 : Int) ≤ Lib.indexByte l c + 1 := by omega
        rw [decide_eq_true h1, decide_eq_true h2]

theorem index_lf (s : ByteArray) : decide (0 ≤ Lib.indexByte s.data.toList 10) = hasLF s := index_any _ _

set_option maxHeartbeats 400000 in
theorem bLine_nil (s : ByteArray) (w : World) :
    Calls Try.prog 34 #[.pointer none, .string s] w fun e w' => e = .returned (.int .i64 1) ∧ w' = w := by
  go_enter Try.func34, Try.ntmps34
  go_wp2_with (first | (go_at_call 52; refine (Try.strings_IndexByte _ _ _).mono ?_; rintro e w1 ⟨rfl, rfl⟩) | (go_at_call 51; refine (fits_nil _ _).mono ?_; rintro e w2 ⟨rfl, rfl⟩))
  all_goals go_ret
  all_goals exact ⟨rfl, rfl⟩

set_option maxHeartbeats 400000 in
theorem bLine_arg (b : Option Addr) (s : ByteArray) (w : World) (hlf : hasLF s = true) :
    Calls Try.prog 34 #[.pointer b, .string s] w fun e w' => e = .returned (.int .i64 1) ∧ w' = w := by
  have hd := index_lf s
  rw [hlf] at hd
  go_enter Try.func34, Try.ntmps34
  go_wp2_with (go_at_call 52; refine (Try.strings_IndexByte _ _ _).mono ?_; rintro e w1 ⟨rfl, rfl⟩)
  go_ret
  exact ⟨rfl, rfl⟩

/-- A line's bytes in a buffer. -/
def lineN (s : ByteArray) : List UInt8 := bytesOf s ++ [10]
theorem lineN_length (s : ByteArray) : (lineN s).length = s.size + 1 := by simp [lineN, bytesOf_length]

set_option maxHeartbeats 400000 in
theorem bLine_no (s : ByteArray) (w : World) (hs : s.size ≤ 140737488355328) (hlf : hasLF s = false) {bb : Nat} {ao : Option Addr} {cap : Nat} {bs : List UInt8} {room : Nat} (h : BufIs 70 w bb ao cap bs room) (hno : ¬ (lineN s).length ≤ room - bs.length) :
    Calls Try.prog 34 #[.pointer (some ⟨bb, 0, none⟩), .string s] w fun e w' => e = .returned (.int .i64 12) ∧ Kept [] w w' := by
  have hd := index_lf s
  rw [hlf] at hd
  rw [lineN_length] at hno
  have hle := h.le
  have hcode : fitsCode room bs.length ((s.size : Int) + 1) = 12 := by unfold fitsCode; rw [if_neg]; omega
  go_enter Try.func34, Try.ntmps34
  go_wp2_with (first | (go_at_call 52; refine (Try.strings_IndexByte _ _ _).mono ?_; rintro e w1 ⟨rfl, rfl⟩) | (go_at_call 51; refine (fits_any _ _ h).mono ?_; rw [hcode]; rintro e w2 ⟨rfl, k, rfl⟩))
  go_ret
  exact ⟨rfl, Kept.drewN [] _ _⟩

theorem src_lf (w : World) : Src Try.prog 1 68 (.slice (some ⟨w.heap.size, 0, none⟩) 1 1) ([10] : List UInt8).length (cellsOf [10]) (w.alloc (.cells #[.int .u8 10] 5)) :=
  Src.ofSlice (P := Try.prog) _ Try.underlying68 ⟨w.heap.size, 0, none⟩ 1 1 (cellsOf [10]) rfl (cell_one_new _ _ _) (cellsOf_oneCell _)

set_option maxHeartbeats 400000 in
theorem bLine_yes (s : ByteArray) (w : World) (hs : s.size ≤ 140737488355327) (hlf : hasLF s = false) {bb : Nat} {ao : Option Addr} {cap : Nat} {bs : List UInt8} {room : Nat} (h : BufIs 70 w bb ao cap bs room) (hyes : (lineN s).length ≤ room - bs.length) :
    Calls Try.prog 34 #[.pointer (some ⟨bb, 0, none⟩), .string s] w fun e w' => e = .returned (.int .i64 (putCode room bs (lineN s))) ∧ PutsTo w w' bb ao bs (lineN s) room := by
  obtain ⟨i0, hi, hz0, hz1, hz2⟩ := info_parts Try.infoU8
  have hd := index_lf s
  rw [hlf] at hd
  have hll := lineN_length s
  have hle := h.le
  have hcode : fitsCode room bs.length ((s.size : Int) + 1) = 0 := by unfold fitsCode; rw [if_pos]; omega
  have HL : Hid ((lineN s).length = s.size + 1) := hll
  clear hll
  go_enter Try.func34, Try.ntmps34
  go_wp2_with (first | (go_at_call 52; refine (Try.strings_IndexByte _ _ _).mono ?_; rintro e w1 ⟨rfl, hw⟩; replace hw := hw.symm; subst hw) | (go_at_call 51; refine (fits_any _ _ h).mono ?_; rw [hcode]; rintro e w2 ⟨rfl, k, rfl⟩) | (refine wpList_bytes_of _ rfl _ 9 68 5 rfl s rfl Try.underlying9 Try.underlying68 Try.underlying5 w.heap.size ?_ ?_))
  · simp
  · intro g1 cap1 w3 hra hb3
    have hrs : w.heap.size ≤ w3.heap.size := by have := hb3.size; simpa using this
    have hk3 : Kept [] w w3 := (Kept.drewN [] w k).below_row (by simpa using hb3)
    go_wp2_with (at_builtin; refine wpList_append_row _ rfl _ _ 68 68 rfl 5 i0 Try.underlying68 hi hz0 hz1 hz2 w.heap.size g1 cap1 (bytesOf s) [10] rfl ?_ ?_ _ rfl (src_lf _) ?_ ?_)
    · exact hra.kept (Kept.alloc [] _ _)
    · simp; omega
    · rw [bytesOf_length]; simp; omega
    · intro g' cap' w4 hc hb
      have hT : (bytesOf s).length + 1 = (lineN s).length := by simp [lineN]
      rw [show bytesOf s ++ [10] = lineN s from rfl] at hc
      rw [hT]
      have hk4 : Kept [] w w4 := (hk3.trans (Kept.alloc [] _ _) (by simp)).below_row hb
      have h4 := h.kept hk4 (by simp) (by simp)
      have HC' : Hid (∀ j u, (cellsOf (lineN s))[j]? = some u → w4.cell? ((⟨g', 0, none⟩ : Addr).add j) = some u) := fun j u hu => by rw [add_block]; exact hc j u hu
      have htl : 0 < (lineN s).length := by rw [HL.out]; omega
      clear hc hb hT hra hb3 hk3 hcode hd
      go_wp2_with (go_at_call 48; refine (put_any _ h4 _ _ (lineN s) HC'.out htl).mono ?_; rintro e w5 ⟨rfl, hp⟩)
      go_ret
      exact ⟨rfl, PutsTo.ahead hk4 hp⟩

theorem bLine_any (s : ByteArray) (w : World) (hs : s.size ≤ 140737488355327) (hlf : hasLF s = false) {bb : Nat} {ao : Option Addr} {cap : Nat} {bs : List UInt8} {room : Nat} (h : BufIs 70 w bb ao cap bs room) :
    Calls Try.prog 34 #[.pointer (some ⟨bb, 0, none⟩), .string s] w fun e w' => e = .returned (.int .i64 (putCode room bs (lineN s))) ∧ PutsTo w w' bb ao bs (lineN s) room := by
  by_cases hfit : (lineN s).length ≤ room - bs.length
  · exact bLine_yes s w hs hlf h hfit
  · exact (bLine_no s w (by omega) hlf h hfit).mono fun e w' ⟨he, hk⟩ => ⟨by rw [he, show putCode room bs (lineN s) = 12 from if_neg hfit], PutsTo.none h hfit hk⟩

end Go.Proofs.Ytfbfdfenfcjolaa
