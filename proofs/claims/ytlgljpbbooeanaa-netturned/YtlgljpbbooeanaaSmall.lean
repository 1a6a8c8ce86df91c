/-
  What the small functions of package codec do: New, Left, Len, fits, String, at a buffer and at none.
-/
import Derived.Test.YtlgljpbbooeanaaRows
import Derived.Test.YtlgljpbbooeanaaKit
import Derived.WalkKit
import Derived.WalkSpells
import Derived.WalkLawsBesides
import Derived.Deep.QuietTactic
import Derived.BigQuiet
namespace Go.Proofs.Ytlgljpbbooeanaa
open Go.RowKit

theorem world_New (w : World) {room : Int} {x : Int} (h : x = ((roomOf room : Nat) : Int)) :
    w.alloc (.cells #[.slice none 0 0, .int .i64 x] 148) = w.alloc (.cells #[.slice none 0 0, .int .i64 ((roomOf room : Nat) : Int)] 148) := by rw [h]

set_option maxHeartbeats 400000 in
theorem New_any (room : Int) (w : World) :
    Calls Try.prog 73 #[.int .i64 room] w fun e w' => e = .returned (.pointer (some ⟨w.heap.size, 0, none⟩)) ∧ w' = w.alloc (.cells #[.slice none 0 0, .int .i64 ((roomOf room : Nat) : Int)] 148) := by
  by_cases a : room < 0
  · go_enter Try.func73, Try.ntmps73
    go_wp2
    go_ret
    exact ⟨rfl, world_New _ (by rw [roomOf_neg a])⟩
  · by_cases b : 16777216 < room
    · go_enter Try.func73, Try.ntmps73
      go_wp2
      go_ret
      exact ⟨rfl, world_New _ (by rw [roomOf_top b])⟩
    · go_enter Try.func73, Try.ntmps73
      go_wp2
      go_ret
      exact ⟨rfl, world_New _ (by rw [roomOf_mid (by omega) (by omega)])⟩

theorem buf_new (w : World) (room : Int) : BufIs 148 (w.alloc (.cells #[.slice none 0 0, .int .i64 ((roomOf room : Nat) : Int)] 148)) w.heap.size none 0 [] (roomOf room) :=
  ⟨heap_alloc_new w _, World.ownsRow_nil _ _ _ _, Nat.zero_le _, roomOf_le _⟩

set_option maxHeartbeats 400000 in
theorem Left_nil (w : World) : Calls Try.prog 83 #[.pointer none] w fun e w' => e = .returned (.int .i64 0) ∧ w' = w := by
  go_enter Try.func83, Try.ntmps83
  go_wp2
  go_ret
  exact ⟨rfl, rfl⟩

set_option maxHeartbeats 400000 in
theorem Left_any (w : World) {bb : Nat} {ao : Option Addr} {cap : Nat} {bs : List UInt8} {room : Nat} (h : BufIs 148 w bb ao cap bs room) :
    Calls Try.prog 83 #[.pointer (some ⟨bb, 0, none⟩)] w fun e w' => e = .returned (.int .i64 ((room : Int) - bs.length)) ∧ ∃ n, w' = w.drewN n := by
  have c0 := cell_blk h.blk 0
  have c1 := cell_blk h.blk 1
  simp at c0 c1
  have hl := h.le
  have hr := h.rm
  clear h
  go_enter Try.func83, Try.ntmps83
  go_wp2
  go_quiet (fail)
  go_wp2
  go_ret
  exact ⟨rfl, _, rfl⟩

set_option maxHeartbeats 400000 in
theorem String_nil (w : World) : Calls Try.prog 75 #[.pointer none] w fun e w' => e = .returned (.string ByteArray.empty) ∧ w' = w := by
  go_enter Try.func75, Try.ntmps75
  go_wp2
  go_ret
  exact ⟨rfl, rfl⟩

set_option maxHeartbeats 400000 in
theorem fits_nil (n : Int) (w : World) : Calls Try.prog 82 #[.pointer none, .int .i64 n] w fun e w' => e = .returned (.int .i64 1) ∧ w' = w := by
  go_enter Try.func82, Try.ntmps82
  go_wp2
  go_ret
  exact ⟨rfl, rfl⟩

/-- What an attempt to put n bytes is answered. -/
def fitsCode (room len : Nat) (n : Int) : Int := if n ≤ (room : Int) - len then 0 else 12

set_option maxHeartbeats 400000 in
theorem fits_any (n : Int) (w : World) {bb : Nat} {ao : Option Addr} {cap : Nat} {bs : List UInt8} {room : Nat} (h : BufIs 148 w bb ao cap bs room) :
    Calls Try.prog 82 #[.pointer (some ⟨bb, 0, none⟩), .int .i64 n] w fun e w' => e = .returned (.int .i64 (fitsCode room bs.length n)) ∧ ∃ k, w' = w.drewN k := by
  by_cases a : n ≤ (room : Int) - bs.length
  · go_enter Try.func82, Try.ntmps82
    go_wp2_with (go_at_call 83; refine (Left_any _ h).mono ?_; rintro e w' ⟨rfl, k, rfl⟩)
    go_ret
    exact ⟨by simp [fitsCode, a], _, rfl⟩
  · have a' : (room : Int) - bs.length < n := by omega
    go_enter Try.func82, Try.ntmps82
    go_wp2_with (go_at_call 83; refine (Left_any _ h).mono ?_; rintro e w' ⟨rfl, k, rfl⟩)
    go_ret
    exact ⟨by simp [fitsCode, a], _, rfl⟩

set_option maxHeartbeats 400000 in
theorem String_any (w : World) {bb : Nat} {ao : Option Addr} {cap : Nat} {bs : List UInt8} {room : Nat} (h : BufIs 148 w bb ao cap bs room) :
    Calls Try.prog 75 #[.pointer (some ⟨bb, 0, none⟩)] w fun e w' => e = .returned (.string ⟨bs.toArray⟩) ∧ w' = w := by
  have c0 := cell_blk h.blk 0
  simp at c0
  have hcv := run_string_of_row (P := Try.prog) w 99 9 5 Try.underlying99 Try.underlying5 Try.underlying9 h.row
  go_enter Try.func75, Try.ntmps75
  go_wp2
  go_ret
  exact ⟨rfl, rfl⟩

end Go.Proofs.Ytlgljpbbooeanaa
