/-
  SCatch.
-/
import Derived.Defers
import Derived.Laws.NewBlocks
import Derived.Recover
import Derived.Test.YthmdgbmodgfcmaaGreatDoorM34
/-
  What read's deferred function does: of a frame that panics with a refusal, of one that returns.
-/
namespace Go.Proofs.YthmdgbmodgfcmaaGreatDoor
open Go.RowKit

/-- A block with a mishap. -/
def MisAt (w : World) (b : Nat) : Prop := ∃ v0 v1, w.heap[b]? = some (.cells #[v0, v1] 26 (0, 0))

set_option maxHeartbeats 2000000 in
theorem catchAst_idle (p : Addr) (w : World) :
    CallsD Tryz.prog 43 #[.pointer (some p)] .returning w fun e u' w' => e = .returned (.tuple #[]) ∧ u' = .returning ∧ w' = w := by
  refine callsD_of_wpS Tryz.func43 rfl fun c₀ cs hu => ?_
  apply wpS_seq
  apply wpS_region
  simp [wpOpsS, go_sem, recoverD, hu, Tryz.ntmps43, Exit.thenS]
  refine wpS_of_wp ?_
  go_wp2
  cases c₀
  simp_all [bodyPostS, results, Tryz.results43]

@[go_sem] theorem assert_refusal (v : Value) (w : World) : (Instr.typeAssert (.iface 84 v) 20 84 true).run Tryz.prog w = .ok (.tuple #[v, .bool true]) w := by kernel_rfl
@[go_sem] theorem refusal_nil (v : Value) (w : World) : (binOp .eql 20 (.iface 84 v) .nilIface).run Tryz.prog w = .ok (.bool false) w := by kernel_rfl

set_option maxHeartbeats 2000000 in
theorem catchAst_panicking (b : Nat) (m : Mis) (w : World) (v0 v1 : Value) (hb : w.heap[b]? = some (.cells #[v0, v1] 26 (0, 0))) :
    CallsD Tryz.prog 43 #[.pointer (some ⟨b, 0, none⟩)] (.panicking (thrown m)) w fun e u' w' =>
      e = .returned (.tuple #[]) ∧ u' = .panicking [{ v := .iface 84 (.agg #[.int .i64 (m.1 : Int), .int .i64 (m.2 : Int)]), recovered := true }] ∧
        w'.heap[b]? = some (.cells #[.int .i64 (m.1 : Int), .int .i64 (m.2 : Int)] 26 (0, 0)) ∧ Mv (· = b) w w' := by
  have c0 : w.cell? ⟨b, 0, none⟩ = some v0 := by simpa using cell_blk hb 0
  have c1 : w.cell? ⟨b, 1, none⟩ = some v1 := by simpa using cell_blk hb 1
  have hblt : b < w.heap.size := lt_of_block hb
  have f0 := free_blk hb 0
  have f1 := free_blk hb 1
  unfold thrown
  obtain ⟨mc, hmc⟩ : ∃ x : Int, (m.1 : Int) = x := ⟨_, rfl⟩
  obtain ⟨mk, hmk⟩ : ∃ x : Int, (m.2 : Int) = x := ⟨_, rfl⟩
  rw [hmc, hmk]
  clear hmc hmk
  have HB : Hid (w.heap[b]? = some (.cells #[v0, v1] 26 (0, 0))) := hb
  clear hb
  refine callsD_of_wpS Tryz.func43 rfl fun c₀ cs hu => ?_
  apply wpS_seq
  apply wpS_region
  simp [wpOpsS, go_sem, recoverD, hu, Tryz.ntmps43, Exit.thenS]
  refine wpS_of_wp ?_
  go_wp2_with fail
  have hW : (((w.setCell ⟨b, 0, none⟩ (.int .i64 mc)).setCell ⟨b, 1, none⟩ (.int .i64 mk)).alloc (.cells #[.int .i64 mc, .int .i64 mk] 84)).heap[b]? = some (.cells #[.int .i64 mc, .int .i64 mk] 26 (0, 0)) :=
    (Mv.alloc (fun _ => False) _ _).heap (setCell_blk (setCell_blk HB.out)) id
  have hM : Mv (· = b) w (((w.setCell ⟨b, 0, none⟩ (.int .i64 mc)).setCell ⟨b, 1, none⟩ (.int .i64 mk)).alloc (.cells #[.int .i64 mc, .int .i64 mk] 84)) :=
    ((Mv.setCell w ⟨b, 0, none⟩ _).trans (Mv.setCell _ ⟨b, 1, none⟩ _) (fun x h => .inl h)).trans (Mv.alloc (fun _ => False) _ _) (fun _ h => h.elim)
  obtain ⟨W, hWe⟩ : ∃ W, ((w.setCell ⟨b, 0, none⟩ (.int .i64 mc)).setCell ⟨b, 1, none⟩ (.int .i64 mk)).alloc (.cells #[.int .i64 mc, .int .i64 mk] 84) = W := ⟨_, rfl⟩
  rw [hWe] at hW hM ⊢
  clear hWe
  simp [bodyPostS, results, Tryz.results43, hW, hM]

set_option maxHeartbeats 2000000 in
theorem catchUnits_idle (p : Addr) (w : World) :
    CallsD Tryz.prog 29 #[.pointer (some p)] .returning w fun e u' w' => e = .returned (.tuple #[]) ∧ u' = .returning ∧ w' = w := by
  refine callsD_of_wpS Tryz.func29 rfl fun c₀ cs hu => ?_
  apply wpS_seq
  apply wpS_region
  simp [wpOpsS, go_sem, recoverD, hu, Tryz.ntmps29, Exit.thenS]
  refine wpS_of_wp ?_
  go_wp2
  cases c₀
  simp_all [bodyPostS, results, Tryz.results29]

set_option maxHeartbeats 2000000 in
theorem catchUnits_panicking (b : Nat) (m : Mis) (w : World) (v0 v1 : Value) (hb : w.heap[b]? = some (.cells #[v0, v1] 26 (0, 0))) :
    CallsD Tryz.prog 29 #[.pointer (some ⟨b, 0, none⟩)] (.panicking (thrown m)) w fun e u' w' =>
      e = .returned (.tuple #[]) ∧ u' = .panicking [{ v := .iface 84 (.agg #[.int .i64 (m.1 : Int), .int .i64 (m.2 : Int)]), recovered := true }] ∧
        w'.heap[b]? = some (.cells #[.int .i64 (m.1 : Int), .int .i64 (m.2 : Int)] 26 (0, 0)) ∧ Mv (· = b) w w' := by
  have c0 : w.cell? ⟨b, 0, none⟩ = some v0 := by simpa using cell_blk hb 0
  have c1 : w.cell? ⟨b, 1, none⟩ = some v1 := by simpa using cell_blk hb 1
  have hblt : b < w.heap.size := lt_of_block hb
  have f0 := free_blk hb 0
  have f1 := free_blk hb 1
  unfold thrown
  obtain ⟨mc, hmc⟩ : ∃ x : Int, (m.1 : Int) = x := ⟨_, rfl⟩
  obtain ⟨mk, hmk⟩ : ∃ x : Int, (m.2 : Int) = x := ⟨_, rfl⟩
  rw [hmc, hmk]
  clear hmc hmk
  have HB : Hid (w.heap[b]? = some (.cells #[v0, v1] 26 (0, 0))) := hb
  clear hb
  refine callsD_of_wpS Tryz.func29 rfl fun c₀ cs hu => ?_
  apply wpS_seq
  apply wpS_region
  simp [wpOpsS, go_sem, recoverD, hu, Tryz.ntmps29, Exit.thenS]
  refine wpS_of_wp ?_
  go_wp2_with fail
  have hW : (((w.setCell ⟨b, 0, none⟩ (.int .i64 mc)).setCell ⟨b, 1, none⟩ (.int .i64 mk)).alloc (.cells #[.int .i64 mc, .int .i64 mk] 84)).heap[b]? = some (.cells #[.int .i64 mc, .int .i64 mk] 26 (0, 0)) :=
    (Mv.alloc (fun _ => False) _ _).heap (setCell_blk (setCell_blk HB.out)) id
  have hM : Mv (· = b) w (((w.setCell ⟨b, 0, none⟩ (.int .i64 mc)).setCell ⟨b, 1, none⟩ (.int .i64 mk)).alloc (.cells #[.int .i64 mc, .int .i64 mk] 84)) :=
    ((Mv.setCell w ⟨b, 0, none⟩ _).trans (Mv.setCell _ ⟨b, 1, none⟩ _) (fun x h => .inl h)).trans (Mv.alloc (fun _ => False) _ _) (fun _ h => h.elim)
  obtain ⟨W, hWe⟩ : ∃ W, ((w.setCell ⟨b, 0, none⟩ (.int .i64 mc)).setCell ⟨b, 1, none⟩ (.int .i64 mk)).alloc (.cells #[.int .i64 mc, .int .i64 mk] 84) = W := ⟨_, rfl⟩
  rw [hWe] at hW hM ⊢
  clear hWe
  simp [bodyPostS, results, Tryz.results29, hW, hM]

end Go.Proofs.YthmdgbmodgfcmaaGreatDoor
