/-
  Small, Groups.
-/
import Derived.BigQuiet
import Derived.Deep.QuietTactic
import Derived.WalkKit
import Derived.WalkLawsBesides
import Derived.WalkSpells
import Derived.Test.YtcpgpiokjghcnaaRows
import Derived.Test.YtcpgpiokjghcnaaM4
/-
  What the small functions of package codec do: New, Left, Len, fits, String, at a buffer and at none.
-/
namespace Go.Proofs.Ytcpgpiokjghcnaa
open Go.RowKit

theorem world_New (w : World) {room : Int} {x : Int} (h : x = ((roomOf room : Nat) : Int)) :
    w.alloc (.cells #[.slice none 0 0, .int .i64 x] 105) = w.alloc (.cells #[.slice none 0 0, .int .i64 ((roomOf room : Nat) : Int)] 105) := by rw [h]

set_option maxHeartbeats 400000 in
theorem New_any (room : Int) (w : World) :
    Calls Try.prog 32 #[.int .i64 room] w fun e w' => e = .returned (.pointer (some ⟨w.heap.size, 0, none⟩)) ∧ w' = w.alloc (.cells #[.slice none 0 0, .int .i64 ((roomOf room : Nat) : Int)] 105) := by
  by_cases a : room < 0
  · go_enter Try.func32, Try.ntmps32
    go_wp2
    go_ret
    exact ⟨rfl, world_New _ (by rw [roomOf_neg a])⟩
  · by_cases b : 16777216 < room
    · go_enter Try.func32, Try.ntmps32
      go_wp2
      go_ret
      exact ⟨rfl, world_New _ (by rw [roomOf_top b])⟩
    · go_enter Try.func32, Try.ntmps32
      go_wp2
      go_ret
      exact ⟨rfl, world_New _ (by rw [roomOf_mid (by omega) (by omega)])⟩

theorem buf_new (w : World) (room : Int) : BufIs 105 (w.alloc (.cells #[.slice none 0 0, .int .i64 ((roomOf room : Nat) : Int)] 105)) w.heap.size none 0 [] (roomOf room) :=
  ⟨heap_alloc_new w _, World.ownsRow_nil _ _ _ _, Nat.zero_le _, roomOf_le _⟩

set_option maxHeartbeats 400000 in
theorem Left_nil (w : World) : Calls Try.prog 39 #[.pointer none] w fun e w' => e = .returned (.int .i64 0) ∧ w' = w := by
  go_enter Try.func39, Try.ntmps39
  go_wp2
  go_ret
  exact ⟨rfl, rfl⟩

set_option maxHeartbeats 400000 in
theorem Left_any (w : World) {bb : Nat} {ao : Option Addr} {cap : Nat} {bs : List UInt8} {room : Nat} (h : BufIs 105 w bb ao cap bs room) :
    Calls Try.prog 39 #[.pointer (some ⟨bb, 0, none⟩)] w fun e w' => e = .returned (.int .i64 ((room : Int) - bs.length)) ∧ ∃ n, w' = w.drewN n := by
  have c0 := cell_blk h.blk 0
  have c1 := cell_blk h.blk 1
  simp at c0 c1
  have hl := h.le
  have hr := h.rm
  clear h
  go_enter Try.func39, Try.ntmps39
  go_wp2
  go_quiet (fail)
  go_wp2
  go_ret
  exact ⟨rfl, _, rfl⟩

set_option maxHeartbeats 400000 in
theorem String_nil (w : World) : Calls Try.prog 34 #[.pointer none] w fun e w' => e = .returned (.string ByteArray.empty) ∧ w' = w := by
  go_enter Try.func34, Try.ntmps34
  go_wp2
  go_ret
  exact ⟨rfl, rfl⟩

set_option maxHeartbeats 400000 in
theorem fits_nil (n : Int) (w : World) : Calls Try.prog 38 #[.pointer none, .int .i64 n] w fun e w' => e = .returned (.int .i64 1) ∧ w' = w := by
  go_enter Try.func38, Try.ntmps38
  go_wp2
  go_ret
  exact ⟨rfl, rfl⟩

/-- What an attempt to put n bytes is answered. -/
def fitsCode (room len : Nat) (n : Int) : Int := if n ≤ (room : Int) - len then 0 else 12

set_option maxHeartbeats 400000 in
theorem fits_any (n : Int) (w : World) {bb : Nat} {ao : Option Addr} {cap : Nat} {bs : List UInt8} {room : Nat} (h : BufIs 105 w bb ao cap bs room) :
    Calls Try.prog 38 #[.pointer (some ⟨bb, 0, none⟩), .int .i64 n] w fun e w' => e = .returned (.int .i64 (fitsCode room bs.length n)) ∧ ∃ k, w' = w.drewN k := by
  by_cases a : n ≤ (room : Int) - bs.length
  · go_enter Try.func38, Try.ntmps38
    go_wp2_with (go_at_call 39; refine (Left_any _ h).mono ?_; rintro e w' ⟨rfl, k, rfl⟩)
    go_ret
    exact ⟨by simp [fitsCode, a], _, rfl⟩
  · have a' : (room : Int) - bs.length < n := by omega
    go_enter Try.func38, Try.ntmps38
    go_wp2_with (go_at_call 39; refine (Left_any _ h).mono ?_; rintro e w' ⟨rfl, k, rfl⟩)
    go_ret
    exact ⟨by simp [fitsCode, a], _, rfl⟩

set_option maxHeartbeats 400000 in
theorem String_any (w : World) {bb : Nat} {ao : Option Addr} {cap : Nat} {bs : List UInt8} {room : Nat} (h : BufIs 105 w bb ao cap bs room) :
    Calls Try.prog 34 #[.pointer (some ⟨bb, 0, none⟩)] w fun e w' => e = .returned (.string ⟨bs.toArray⟩) ∧ w' = w := by
  have c0 := cell_blk h.blk 0
  simp at c0
  have hcv := run_string_of_row (P := Try.prog) w 103 9 5 Try.underlying103 Try.underlying5 Try.underlying9 h.row
  go_enter Try.func34, Try.ntmps34
  go_wp2
  go_ret
  exact ⟨rfl, rfl⟩

end Go.Proofs.Ytcpgpiokjghcnaa
/-
  What groups does: a number's bytes, in a new slice.
-/
namespace Go.Proofs.Ytcpgpiokjghcnaa
open Go.RowKit

theorem Try.infoU8 : (Try.prog.info? 5).map (fun i => (i.zero, i.size, i.bytes)) = some (some (.int .u8 0), 1, 1) := by kernel_rfl

theorem grown_one {w wr w1 : World} {pre : List UInt8} {ao : Option Addr} {cap : Nat} {x : Int} {b : UInt8} {v' : Value} {o : Obj} (hx : x = (b.toNat : Int)) (hown : wr.ownsRow w.heap.size 5 1 (.slice ao pre.length cap) pre.length (cellsOf pre)) (hk : Kept [] w wr)
    (h : w1.ownsRow w.heap.size 5 1 v' (pre.length + 1) (cellsOf pre ++ [.int .u8 x])) (hg : (wr.alloc o).grownBy w1 (Value.ownBlock (.slice ao pre.length cap))) :
    ∃ ao' cap', v' = .slice ao' (pre ++ [b]).length cap' ∧ w1.ownsRow w.heap.size 5 1 (.slice ao' (pre ++ [b]).length cap') (pre ++ [b]).length (cellsOf (pre ++ [b])) ∧ Kept [] w w1 := by
  subst hx
  rw [← cellsOf_one, ← cellsOf_append] at h
  have hl : pre.length + 1 = (pre ++ [b]).length := by simp
  rw [hl] at h
  have hK : Kept [] w w1 := (hk.trans (Kept.alloc [] wr o) (by simp)).trans (Kept.grown hg) (fun x hx => by
    right
    have hx' : Value.ownBlock (.slice ao pre.length cap) = some x := by simpa using hx
    exact (hown.lt x hx').1)
  rcases h.2 with ⟨hv, hn⟩ | ⟨g, cap', cur, hv, _⟩
  · simp at hn
  · exact ⟨some ⟨g, 0, none⟩, cap', hv, hv ▸ h, hK⟩

set_option maxHeartbeats 400000 in
set_option maxRecDepth 100000 in
theorem groups_any (n : Nat) (w : World) (hn : (n : Int) < 18446744073709551616) :
    Calls Try.prog 37 #[.int .u64 (n : Int)] w fun e w' => ∃ ao cap, e = .returned (.slice ao (encU n).length cap) ∧ w'.ownsRow w.heap.size 5 1 (.slice ao (encU n).length cap) (encU n).length (cellsOf (encU n)) ∧ Kept [] w w' := by
  obtain ⟨i0, hi, hz0, hz1, hz2⟩ := info_parts Try.infoU8
  have h10 : (encU n).length ≤ 10 := encU_ten (by omega)
  go_enter Try.func37, Try.ntmps37
  go_wp2_with (first | (at_make; refine wpList_make_own _ rfl _ _ 103 rfl w.heap.size 5 i0 (.int .u8 0) 1 Try.underlying103 hi hz0 hz1 .i64 .i64 10 10 rfl rfl rfl ?c1 ?c2 ?c3 ?_) | fail)
  case c1 => rw [hz2]; decide
  case c2 => decide
  case c3 => exact Nat.le_refl _
  intro w1 hown1 hg1
  go_wp2
  go_loopw [0, 3] (fun nv dv wr => ∃ (pre : List UInt8) (m : Nat) (ao : Option Addr) (cap : Nat), Hid (encU n = pre ++ encU m) ∧ (m : Int) < 18446744073709551616 ∧ nv = .int .u64 (m : Int) ∧ dv = .slice ao pre.length cap ∧
      wr.ownsRow w.heap.size 5 1 (.slice ao pre.length cap) pre.length (cellsOf pre) ∧ Kept [] w wr)
    (fun nv _ _ => (intOf nv).toNat)
  case atStart => exact ⟨[], n, _, _, rfl, hn, rfl, rfl, hown1, Kept.grown hg1⟩
  case round =>
    obtain ⟨pre, m, ao, cap, HE, hm, rfl, rfl, hown, hk⟩ := hrel
    have hpl : pre.length ≤ 10 := by have := congrArg List.length HE.out; simp at this; omega
    by_cases h128 : m < 128
    · have H128 : Hid (m < 128) := h128
      have hb : decide ((128 : Int) ≤ (m : Int)) = false := by simp; omega
      clear h128
      go_wp2_with (first | (at_builtin; refine wpList_append_own _ rfl _ _ 103 rfl w.heap.size 5 i0 (.int .u8 0) 1 1 Try.underlying103 hi hz0 hz1 hz2 rfl (by decide) _ _ _ rfl (hown.alloc _) ⟨wr.heap.size, 0, none⟩ 1 1 [.int .u8 ((m : Int) % 256)] rfl rfl (cell_one_new _ _ _) ?d2 ?d3 ?d4 ?d5 ?_) | fail)
      case d2 => intro u hu; simp at hu; subst hu; rfl
      case d3 => unfold maxLen; omega
      case d4 => omega
      case d5 => have := hk.size; simp; omega
      intro v' w2 hown2 hg2 _
      obtain ⟨ao', cap', rfl, hown3, hk3⟩ := grown_one (byte_low m) hown hk hown2 hg2
      clear hown2 hg2 hown hk hown1 hg1
      go_wp2
      go_ret
      have he : encU n = pre ++ [UInt8.ofNat m] := by rw [HE.out, encU_small H128.out]
      rw [he]
      exact ⟨ao', cap', rfl, hown3, hk3⟩
    · have h128' : (128 : Int) ≤ (m : Int) := by omega
      go_wp2_with (first | (at_builtin; refine wpList_append_own _ rfl _ _ 103 rfl w.heap.size 5 i0 (.int .u8 0) 1 1 Try.underlying103 hi hz0 hz1 hz2 rfl (by decide) _ _ _ rfl (hown.alloc _) ⟨wr.heap.size, 0, none⟩ 1 1 [.int .u8 (bits .or .u8 ((m : Int) % 256) 128)] rfl rfl (cell_one_new _ _ _) ?e2 ?e3 ?e4 ?e5 ?_) | fail)
      case e2 => intro u hu; simp at hu; subst hu; rfl
      case e3 => unfold maxLen; omega
      case e4 => omega
      case e5 => have := hk.size; simp; omega
      intro v' w2 hown2 hg2 _
      obtain ⟨ao', cap', rfl, hown3, hk3⟩ := grown_one (byte_or128 m) hown hk hown2 hg2
      clear hown2 hg2 hown hk hown1 hg1
      go_wp2
      go_roundw
      case rel =>
        refine ⟨pre ++ [UInt8.ofNat (m % 128 + 128)], m / 128, ao', cap', ?_, by omega, by simp, rfl, hown3, hk3⟩
        show encU n = _
        rw [HE.out, encU_big h128, List.append_assoc]
        rfl
      case measure => simp [intOf]; omega

end Go.Proofs.Ytcpgpiokjghcnaa
