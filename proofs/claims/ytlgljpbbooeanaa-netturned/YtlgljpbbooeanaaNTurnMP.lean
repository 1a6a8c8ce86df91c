/-
  PROVED HERE: whatever the graph, the statement sextantlaw15.NetTurned (the nodes that are reached are the same in whatever order a node's arcs stand, and with a node more that nobody leads to) answers true and leaves its argument as it was. No condition.
-/
import Derived.Test.YtlgljpbbooeanaaNTurnM
import Derived.Test.YtlgljpbbooeanaaNOpen
import Derived.Test.YtlgljpbbooeanaaFrame
import Derived.Carry
import Derived.ShutString
import Derived.Test.YtlgljpbbooeanaaNExplW
namespace Go.Proofs.Ytlgljpbbooeanaa.netTurned
open Go.ChangeShapes Go.WideShapes Go.ChangeAt Go.RowKit
set_option linter.unusedVariables false

theorem own : ownKnob Try.prog.godebug = none := by kernel_rfl

set_option maxRecDepth 100000 in
theorem lifted (HC : NCons) (os : Os) (started : os.Started) (H : Type) (enc : TypeId × Value → H) :
    ReturnsInHanded {} Try.checked os 5 .any (Rows.netTurnedSpec.pre6 enc Try.prog Try.f5 Rows.netTurnedRow.domain false) (Rows.netTurnedSpec.post enc Try.prog Try.f5 false true false false) := by
  refine returnsInHanded_of_change_sized (C := Try.checked) own started (by kernel_rfl) Try.func5
    (ChangeSpec.witness6 (enc := enc) (C := Try.checked) false ⟨#[], #[.agg #[.slice none 0 0]], []⟩ 8 (by kernel_rfl) (by kernel_rfl) (by kernel_rfl) (by kernel_rfl)) ?_
  intro W base args ds gs before hval0 hW hcnd hsz0 _
  have hval : ∀ (j : Nat) t v, Try.f5.params[j]? = some t → args[j]? = some v → Value.okWide Try.prog W .any base t v := hval0
  have hW' := hW
  obtain ⟨p, q, hA0, hV, rfl, hfz, hnd⟩ := hW
  have hA : DataW.TrodAll enc Try.prog W 0 (fun _ => true) true Try.f5.params.toList args.toList ds p := hA0
  rw [Try.params5] at hA hval
  obtain ⟨v0, vs0, d0, ds0, p0, q0, hargs, rfl, rfl, h0, r0⟩ := trodAll_cons hA
  obtain ⟨rfl, rfl, rfl⟩ := trodAll_nil r0
  obtain rfl : args = #[v0] := by cases args; simp_all
  obtain ⟨rfl, rfl⟩ := trodVars_none hV
  obtain ⟨cs0, rfl, hcs0⟩ := okWide_struct Try.underlying24 (hval 0 24 v0 rfl rfl)
  obtain ⟨x0, rfl⟩ := n_arr1 (hcs0.trans n_cellsNet)
  have g0 := h0
  obtain ⟨fuel0, hf0⟩ := h0
  have hz0 : ∀ n ∈ d0.weights Try.prog 24, n ≤ reachBytes := fun n hn => by
    have := List.all_eq_true.1 hsz0 n (DataW.weights_mem_each (j := 0) (t := 24) (d := d0) (by rw [Try.params5]; rfl) rfl n hn)
    simpa using this
  obtain ⟨ao0, cap0, ns0, rfl, hs0⟩ := open_net (x := (d0, p0)) (by simpa [Value.cells] using hf0) hz0
  clear hA0 hval0 hsz0 hz0
  simp only [List.append_nil] at hW'
  refine (NetTurned_walk HC W ns0 hs0).mono fun e W' ⟨he, hg0⟩ => ?_
  subst he
  have hg : Below W.heap.size W W' := hg0.nu_below
  have hlt0 : ∀ x ∈ p0, x.block < W.heap.size := fun x hx => hW'.lt x (by simp [hx])
  exact ⟨_, rfl, post_of_kept (pa := p0 ++ ([])) (pv := []) hW' (fun _ _ _ => (trodAll_cons_mk (shut_bool Try.underlying4 _) trodAll_mk0))
    (trodAll_cons_mk (Below.trod n_laidOut (by kernel_rfl) (of_decide_eq_true (by kernel_rfl)) g0 hg hlt0) trodAll_mk0) rfl hg⟩

theorem over (HC : NCons) : Rows.netTurnedRow.holds Try.pinned (OpenSpec.ofChange Rows.netTurnedSpec) :=
  OpenClaim.holds_of_wide 5 Try.f5 rfl rfl rfl rfl rfl rfl rfl ⟨rfl, rfl, rfl, rfl, rfl⟩ rfl rfl rfl rfl rfl (by kernel_rfl) Try.func5 (by kernel_rfl)
    (of_decide_eq_true (by kernel_rfl)) (by unfold Func.isWrapper; first | (rw [if_pos (by decide +kernel)]; kernel_rfl) | (rw [if_neg (by decide +kernel)]; exact ⟨rfl, rfl⟩))
    (fun os started H enc _ => lifted HC os started H enc)

end Go.Proofs.Ytlgljpbbooeanaa.netTurned
namespace Go.Proofs.Ytlgljpbbooeanaa

/-- THE STATEMENT, over the contracts. -/
theorem netTurned_of (HC : NCons) : Rows.NetTurnedSaid := netTurned.over HC

end Go.Proofs.Ytlgljpbbooeanaa

namespace Go.Proofs.Ytlgljpbbooeanaa

/-- THE STATEMENT. -/
theorem netTurned_holds : Rows.NetTurnedSaid := netTurned_of nCons

end Go.Proofs.Ytlgljpbbooeanaa
