/-
  What New, Len, Bytes, chain and piece do.
-/
import Derived.Test.YtmpbganbhoknpaaYStM
import Derived.Deep.QuietTactic
import Derived.BigQuiet
set_option linter.unusedVariables false
namespace Go.Proofs.Ytmpbganbhoknpaa
open Go.RowKit

theorem cells5s {w : World} {b : Nat} {t : TypeId} {v0 v1 v2 v3 v4 : Value} (h : w.heap[b]? = some (.cells #[v0, v1, v2, v3, v4] t (0, 0))) : w.cell? ⟨b, 0, none⟩ = some v0 ∧ w.cell? ⟨b, 1, none⟩ = some v1 ∧ w.cell? ⟨b, 2, none⟩ = some v2 ∧ w.cell? ⟨b, 3, none⟩ = some v3 ∧ w.cell? ⟨b, 4, none⟩ = some v4 :=
  ⟨cell_blk h 0, cell_blk h 1, cell_blk h 2, cell_blk h 3, cell_blk h 4⟩

section
variable {w : World} {b : Nat} {L : List ByteArray} {S R : Nat} {to : Option Addr} {tc : Nat} {ho : Option Addr} {hc : Nat} {po : Option Addr} {pc m : Nat} {nx hd : Nat → Int}

set_option maxHeartbeats 1000000 in
set_option maxRecDepth 20000 in
theorem len_any (h : SM w b L S R to tc ho hc po pc m nx hd) : Calls Try.prog 17 #[.pointer (some ⟨b, 0, none⟩)] w fun e w' => e = .returned (.int .i64 (L.length : Int)) ∧ w' = w := by
  obtain ⟨c0, c1, c2, c3, c4⟩ := cells5s h.blk
  clear h
  go_enter Try.func17, Try.ntmps17
  go_wp2
  go_ret
  exact ⟨rfl, rfl⟩
set_option maxHeartbeats 1000000 in
set_option maxRecDepth 20000 in
theorem bytes_any (h : SM w b L S R to tc ho hc po pc m nx hd) : Calls Try.prog 18 #[.pointer (some ⟨b, 0, none⟩)] w fun e w' => e = .returned (.int .i64 (bytesIn L : Int)) ∧ w' = w := by
  obtain ⟨c0, c1, c2, c3, c4⟩ := cells5s h.blk
  clear h
  go_enter Try.func18, Try.ntmps18
  go_wp2
  go_ret
  exact ⟨rfl, rfl⟩
set_option maxHeartbeats 1000000 in
set_option maxRecDepth 20000 in
theorem chain_any (h : SM w b L S R to tc ho hc po pc m nx hd) (x : Int) (h0 : 0 < m) (h1 : m ≤ 1000000) : Calls Try.prog 27 #[.pointer (some ⟨b, 0, none⟩), .int .u64 x] w fun e w' => e = .returned (.int .i64 (chN m x : Int)) ∧ w' = w := by
  obtain ⟨c0, c1, c2, c3, c4⟩ := cells5s h.blk
  clear h
  have hlt := chN_lt x h0 h1
  go_enter Try.func27, Try.ntmps27
  go_wp2
  go_ret
  refine ⟨y_ret ?_, rfl⟩
  rw [chN_bits x h0 h1]
  unfold wrap64
  omega
set_option maxHeartbeats 4000000 in
set_option maxRecDepth 20000 in
theorem piece_any (h : SM w b L S R to tc ho hc po pc m nx hd) {i : Nat} {s : ByteArray} (hi : L[i]? = some s) (hl : L.length ≤ 1000000) (hb : bytesIn L ≤ 140737488355328) : Calls Try.prog 25 #[.pointer (some ⟨b, 0, none⟩), .int .i64 (i : Int)] w fun e w' => e = .returned (pieceV to tc L i) ∧ ∃ k, w' = w.drewN k := by
  obtain ⟨c0, c1, c2, c3, c4⟩ := cells5s h.blk
  obtain ⟨g, rfl, d0, d1, d2, d3, _⟩ := h.held hi
  have hlt := (List.getElem?_eq_some_iff.1 hi).1
  have hlt' : (i : Int) < (L.length : Int) := by omega
  have ho1 := offL_succ hi
  have hle := offL_le L (i + 1)
  have hcap := h.cap
  have hle2 : offL L i ≤ offL L (i + 1) := by omega
  clear h hi ho1
  go_enter Try.func25, Try.ntmps25
  go_wp2
  go_quiet (fail)
  generalize hpv : Value.slice (if tc = offL L i then to else Option.map (fun x => x.add (offL L i)) to) (offL L (i + 1) - offL L i) (tc - offL L i) = pv
  have HP : Hid (pv = pieceV to tc L i) := by rw [← hpv]; show _ = _; unfold pieceV sliced; rw [Nat.mul_one]
  clear hpv
  go_wp2
  go_ret
  exact ⟨congrArg Ending.returned HP.out, _, rfl⟩
end

set_option maxHeartbeats 1000000 in
set_option maxRecDepth 20000 in
theorem new_any (w : World) (s r : Int) (h1 : s ≤ 9223372036854775807) (h2 : r ≤ 9223372036854775807) :
    Calls Try.prog 7 #[.int .i64 s, .int .i64 r] w fun e w' => e = .returned (.pointer (some ⟨w.heap.size, 0, none⟩)) ∧ SM w' w.heap.size [] s.toNat r.toNat none 0 none 0 none 0 0 (fun _ => 0) (fun _ => 0) ∧ Nu w w' := by
  have HE : Hid (∀ a b : Int, a = (s.toNat : Int) → b = (r.toNat : Int) → SM (w.alloc (.cells #[.int .i64 a, .int .i64 b, .slice none 0 0, .slice none 0 0, .slice none 0 0] 55)) w.heap.size [] s.toNat r.toNat none 0 none 0 none 0 0 (fun _ => 0) (fun _ => 0)) := fun a b ha hb =>
    ⟨by rw [ha, hb]; exact heap_alloc_new w _, World.ownsRow_nil _ _ _ _, World.ownsRow_nil _ _ _ _, World.ownsRow_nil _ _ _ _⟩
  have HK : Hid (∀ o, Nu w (w.alloc o)) := fun o => Mv.alloc _ _ _
  rcases Int.lt_or_le s 0 with hs | hs <;> rcases Int.lt_or_le r 0 with hr | hr
  all_goals
    go_enter Try.func7, Try.ntmps7
    go_wp2
    go_ret
    exact ⟨rfl, HE.out _ _ (by omega) (by omega), HK.out _⟩

end Go.Proofs.Ytmpbganbhoknpaa
