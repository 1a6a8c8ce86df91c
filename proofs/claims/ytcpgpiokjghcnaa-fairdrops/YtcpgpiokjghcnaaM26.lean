/-
  NClone.
-/
import Derived.Lib.SliceRun
import Derived.Lib.Walk
import Derived.Test.YtcpgpiokjghcnaaM22
import Derived.Test.YtcpgpiokjghcnaaM23
/-
  Copies: slices.Clone of numbers, of arcs, of nodes.
-/
set_option linter.unusedVariables false
set_option linter.unusedSimpArgs false
namespace Go.Proofs.Ytcpgpiokjghcnaa
open Go.RowKit

theorem c_infoInt : (Try.prog.info? 3).map (fun i => (i.zero, i.size, i.bytes)) = some (some (.int .i64 0), 1, 8) := by kernel_rfl
theorem c_infoArc : (Try.prog.info? 69).map (fun i => (i.zero, i.size, i.bytes)) = some (some (.agg #[.int .i64 0, .int .i64 0, .int .i64 0, .slice none 0 0, .slice none 0 0, .int .u64 0]), 6, 80) := by kernel_rfl
theorem c_infoNode : (Try.prog.info? 65).map (fun i => (i.zero, i.size, i.bytes)) = some (some (.agg #[.slice none 0 0, .int .u64 0, .bool false, .bool false, .bool false]), 5, 40) := by kernel_rfl

set_option maxHeartbeats 2000000 in
set_option maxRecDepth 100000 in
/-- A copy of numbers: of one's own. -/
theorem CloneI_any (w : World) (B : Nat) (ao : Option Addr) (cap : Nat) (xs : List Int) (h : IntsAt w B ao xs) : Calls Try.prog 23 #[.slice ao xs.length cap] w fun e w' => Nu w w' ∧ ∃ ao' cap', e = .returned (.slice ao' xs.length cap') ∧ OwnI w' w.heap.size ao' cap' xs := by
  have hlim := h.lim
  have HR : Hid _ := h.row
  clear h
  have q22 : ∀ (w : World) (a : Option Addr) (n c n' c' : Nat), (binOp .eql 25 (.slice a n c) (.slice none n' c')).run Try.prog w = .ok (.bool a.isNone) w := fun w a n c n' c' => Lib.run_eql_slice_nil w _ _ a n c n' c' Try.underlying25
  cases ao with
  | none =>
    have hl : xs = [] := by
      rcases HR.out with h0 | ⟨b, off, h0, _⟩
      · exact List.length_eq_zero_iff.1 h0
      · cases h0
    subst hl
    go_enter Try.func23, Try.ntmps23
    go_wp2
    go_ret
    exact ⟨Mv.refl _ _, none, 0, rfl, Nat.le_refl _, by decide, by decide, .inl rfl⟩
  | some a =>
    obtain ⟨i0, hi, hz0, hz1, hz2⟩ := info_parts c_infoInt
    go_enter Try.func23, Try.ntmps23
    go_wp2_with (at_builtin; refine wpList_append_own _ rfl _ _ 25 rfl w.heap.size 3 i0 (.int .i64 0) 1 8 Try.underlying25 hi hz0 hz1 hz2 rfl (by decide) _ _ _ rfl (World.ownsRow_made w #[] 0 (Nat.le_refl _) (Nat.zero_le _) rfl) a xs.length cap (xs.map (Value.int .i64)) rfl ?qc1 ?qc2 ?qc3 ?qc4 ?qc5 ?qc6 ?_)
    case qc1 => simp
    case qc2 =>
      intro j u hj
      rw [List.getElem?_map] at hj
      obtain ⟨x, hx, rfl⟩ := Option.map_eq_some_iff.1 hj
      obtain ⟨hlt, rfl⟩ := List.getElem?_eq_some_iff.1 hx
      rcases HR.out with h0 | ⟨b, off, h0, _, hit⟩
      · omega
      · cases h0
        rw [Addr.add_lit]
        exact Lib.cell?_alloc_some _ (hit j hlt)
    case qc3 => intro u hu; obtain ⟨x, _, rfl⟩ := List.mem_map.1 hu; rfl
    case qc4 => unfold maxLen; omega
    case qc5 => omega
    case qc6 => simp
    intro v' w1 hown hgrow hnil
    go_wp2
    go_ret
    have hb : Below w.heap.size w w1 := ((Below.refl _ w).alloc (Nat.le_refl _) _).grown hgrow (by simp) (by intro k hk; simp [Value.ownBlock] at hk; omega)
    refine ⟨Nu.of_below hb, ?_⟩
    rcases hown.2 with ⟨hv, hn⟩ | ⟨g, cap', cur, hv, hg, hblk, hle, hmax, hsz, hcur⟩
    · exact absurd hv hnil
    · subst hv
      refine ⟨_, _, rfl, hle, by unfold maxLen at hmax; omega, hlim, .inr ⟨g, cur, rfl, hg, hblk, by rw [hsz, Nat.mul_one], fun i hi => ?_⟩⟩
      have := hown.cells (g := g) rfl i (.int .i64 xs[i]) (by rw [List.getElem?_map, List.getElem?_eq_getElem hi]; rfl)
      rw [add_block, cell_blk hblk] at this
      exact this

end Go.Proofs.Ytcpgpiokjghcnaa
