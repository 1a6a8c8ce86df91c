/-
  The example's graph, as the statements make it.
-/
import Derived.Test.YtlgljpbbooeanaaNSame
import Derived.Test.YtlgljpbbooeanaaNGraph
namespace Go.Proofs.Ytlgljpbbooeanaa
open Go.RowKit

def twoNet : List Node := [⟨[⟨1, 1, 0, [], [], 0⟩, ⟨0, 0, 1, [], [], 0⟩], 5, false, false, false⟩, ⟨[], 0, true, false, false⟩]

theorem ints_nil (w : World) (B : Nat) : IntsV w B (.slice none 0 0) [] := ⟨none, 0, rfl, by decide, .inl rfl⟩

theorem two_at {w : World} {b g : Nat} (hb : w.heap[b]? = some (.cells #[.int .i64 1, .int .i64 1, .int .i64 0, .slice none 0 0, .slice none 0 0, .int .u64 0, .int .i64 0, .int .i64 0, .int .i64 1, .slice none 0 0, .slice none 0 0, .int .u64 0] 55 (0, 0)))
    (hg : w.heap[g]? = some (.cells #[.slice (some ⟨b, 0, none⟩) 2 2, .int .u64 5, .bool false, .bool false, .bool false, .slice none 0 0, .int .u64 0, .bool true, .bool false, .bool false] 53 (0, 0))) :
    NodesAt w w.heap.size (some ⟨g, 0, none⟩) twoNet := by
  have lb := lt_of_block hb
  have lg := lt_of_block hg
  refine ⟨by decide, .inr ⟨g, 0, rfl, lg, fun i hi => ?_⟩⟩
  have c := cell_blk hg
  have d := cell_blk hb
  match i, hi with
  | 0, _ =>
    refine ⟨⟨_, c 0, some ⟨b, 0, none⟩, 2, rfl, (show (2 : Int) ≤ 17592186044416 by decide), .inr ⟨b, 0, rfl, lb, fun k hk => ?_⟩⟩, c 1, c 2, c 3, c 4⟩
    match k, hk with
    | 0, _ => exact ⟨d 0, d 1, d 2, ⟨_, d 3, ints_nil _ _⟩, ⟨_, d 4, ints_nil _ _⟩, d 5⟩
    | 1, _ => exact ⟨d 6, d 7, d 8, ⟨_, d 9, ints_nil _ _⟩, ⟨_, d 10, ints_nil _ _⟩, d 11⟩
  | 1, _ => exact ⟨⟨_, c 5, none, 0, rfl, (show (0 : Int) ≤ 17592186044416 by decide), .inl rfl⟩, c 6, c 7, c 8, c 9⟩

set_option maxHeartbeats 4000000 in
set_option maxRecDepth 20000 in
theorem two_any (w : World) : Calls Try.prog 22 #[] w fun e w' => ∃ ao cap, e = .returned (.agg #[.slice ao 2 cap]) ∧ NodesAt w' w'.heap.size ao twoNet ∧ Nu w w' := by
  go_enter Try.func22, Try.ntmps22
  go_wp2
  refine bodyPost_ret (v := .agg #[.slice (some ⟨w.heap.size + 1 + 1, 0, none⟩) 2 2]) (by simp [results, Try.results22, go_sem]) rfl ⟨_, _, rfl, ?_, mv0 (mv0 (Mv.alloc _ _ _) (Mv.alloc _ _ _)) (Mv.alloc _ _ _)⟩
  refine two_at (b := w.heap.size + 1) ?_ ?_
  · refine (Mv.alloc (fun _ => False) _ _).heap ?_ id
    have := heap_alloc_new (w.alloc (Obj.cells #[Value.slice (some { block := w.heap.size + 1 + 1, off := 0 }) 2 2] 24)) (Obj.cells #[.int .i64 1, .int .i64 1, .int .i64 0, .slice none 0 0, .slice none 0 0, .int .u64 0, .int .i64 0, .int .i64 0, .int .i64 1, .slice none 0 0, .slice none 0 0, .int .u64 0] 55)
    rw [World.size_alloc] at this
    exact this
  · have := heap_alloc_new ((w.alloc (Obj.cells #[Value.slice (some { block := w.heap.size + 1 + 1, off := 0 }) 2 2] 24)).alloc (Obj.cells #[.int .i64 1, .int .i64 1, .int .i64 0, .slice none 0 0, .slice none 0 0, .int .u64 0, .int .i64 0, .int .i64 0, .int .i64 1, .slice none 0 0, .slice none 0 0, .int .u64 0] 55))
      (Obj.cells #[.slice (some ⟨w.heap.size + 1, 0, none⟩) 2 2, .int .u64 5, .bool false, .bool false, .bool false, .slice none 0 0, .int .u64 0, .bool true, .bool false, .bool false] 53)
    simp only [World.size_alloc] at this
    exact this

end Go.Proofs.Ytlgljpbbooeanaa
