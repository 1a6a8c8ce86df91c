/-
  PrLawOne.
-/
import Derived.Carry
import Derived.JoinedCond
import Derived.ShutString
import Derived.Test.YtmlpndcelfdlhaaM14
import Derived.Test.YtmlpndcelfdlhaaM35
import Derived.Test.YtmlpndcelfdlhaaM7
/-
  PROVED HERE: whatever the graph, the statement sextantlaw16.ProductOne (beside the automaton that accepts every word a system is itself, but that it stays where it has no moves, and all is accepted) answers true and leaves its argument as it was. Condition: the argument is of bulk at most 1048576 (the '..Upto' form).
-/
namespace Go.Proofs.Ytmlpndcelfdlhaa.productOne
open Go.ChangeShapes Go.WideShapes Go.ChangeAt Go.RowKit
set_option linter.unusedVariables false

theorem own : ownKnob Try.prog.godebug = none := by kernel_rfl

set_option maxRecDepth 100000 in
theorem contract (H : Type) (enc : TypeId × Value → H) (W : World) (base : Nat) (args : Array Value) (ds gs : List (DataW H)) (before : List MemPlace)
    (hval : ∀ (j : Nat) t v, Try.f3.params[j]? = some t → args[j]? = some v → Value.okWide Try.prog W .any base t v)
    (hW : DataW.Whole enc Try.prog Try.f3.params.toList Rows.productOneSpec.vars false W args.toList ds gs before) (hk : Rows.uptoSmall H (ds ++ gs) = true) :
    Calls Try.prog 3 args W fun e W' => ∃ v, e = .returned v ∧ Rows.productOneSpec.post enc Try.prog Try.f3 false true false false W args v W' := by
  have hW' := hW
  obtain ⟨p, q, hA0, hV, rfl, hfz, hnd⟩ := hW
  have hA : DataW.TrodAll enc Try.prog W 0 (fun _ => true) true Try.f3.params.toList args.toList ds p := hA0
  rw [Try.params3] at hA hval
  obtain ⟨v0, vs0, d0, ds0, p0, q0, hargs, rfl, rfl, h0, r0⟩ := trodAll_cons hA
  obtain ⟨rfl, rfl, rfl⟩ := trodAll_nil r0
  obtain rfl : args = #[v0] := by cases args; simp_all
  obtain ⟨rfl, rfl⟩ := trodVars_none hV
  obtain ⟨cs0, rfl, hcs0⟩ := okWide_struct Try.underlying24 (hval 0 24 v0 rfl rfl)
  obtain ⟨x0, rfl⟩ := n_arr1 (hcs0.trans n_cellsNet)
  have g0 := h0
  obtain ⟨fuel0, hf0⟩ := h0
  have hz : Rows.uptoBulk d0 ≤ 1048576 := by
    have h := of_decide_eq_true hk
    simp only [List.append_nil, Rows.uptoBulkAll] at h
    omega
  obtain ⟨ao0, cap0, ns0, rfl, hs0, hb0⟩ := open_netB (x := (d0, p0)) (by simpa [Value.cells] using hf0) hz
  have hr0 : arcsIn ns0 + 300 ≤ 262144 := by
    have hb1 : 7 * arcsIn ns0 + ns0.length + 1 ≤ Rows.uptoBulk d0 := hb0
    omega
  clear hA0 hk
  simp only [List.append_nil] at hW'
  refine (productOne_any W ao0 cap0 ns0 hs0 hr0).mono fun e W' ⟨he, hg0⟩ => ?_
  subst he
  have hg : Below W.heap.size W W' := hg0.nu_below
  have hlt0 : ∀ x ∈ p0, x.block < W.heap.size := fun x hx => hW'.lt x (by simp [hx])
  exact ⟨_, rfl, post_of_kept (pa := p0 ++ ([])) (pv := []) hW' (fun _ _ _ => (trodAll_cons_mk (shut_bool Try.underlying4 _) trodAll_mk0))
    (trodAll_cons_mk (Below.trod n_laidOut (by kernel_rfl) (of_decide_eq_true (by kernel_rfl)) g0 hg hlt0) trodAll_mk0) rfl hg⟩

set_option maxRecDepth 100000 in
theorem lifted (os : Os) (started : os.Started) (H : Type) (enc : TypeId × Value → H) (F : Stop.Interp) :
    ReturnsInHanded {} Try.checked os 3 .any ((Rows.OpenSpec.upto Rows.productOneSpec).pre6 enc Try.prog Try.f3 Rows.productOneUptoRow.domain false) (((Rows.OpenSpec.upto Rows.productOneSpec).at F).post enc Try.prog Try.f3 false true false false) := by
  refine returnsInHanded_of_cond (C := Try.checked) (s := Rows.OpenSpec.upto Rows.productOneSpec) (k := Rows.uptoSmall) rfl own started (by kernel_rfl) Try.func3
    (OpenSpec.witness (enc := enc) (C := Try.checked) (s := Rows.OpenSpec.upto Rows.productOneSpec) (k := Rows.uptoSmall) rfl false ⟨#[], #[.agg #[.slice none 0 0]], []⟩ 8 (by kernel_rfl) (by kernel_rfl) (by kernel_rfl)
      (x := ([.agg [.nil]], [], [])) (by kernel_rfl) rfl (by kernel_rfl)) ?_
  intro W base args ds gs before hval hW _ hk _
  exact contract H enc W base args ds gs before hval hW hk

theorem over : Rows.productOneUptoRow.holds Try.pinned (Rows.OpenSpec.upto Rows.productOneSpec) :=
  OpenClaim.holds_of_cond 3 Try.f3 rfl rfl rfl rfl rfl rfl rfl ⟨rfl, rfl, rfl, rfl, rfl⟩ rfl rfl rfl rfl rfl (by kernel_rfl) Try.func3 (by kernel_rfl)
    (of_decide_eq_true (by kernel_rfl)) (by unfold Func.isWrapper; first | (rw [if_pos (by decide +kernel)]; kernel_rfl) | (rw [if_neg (by decide +kernel)]; exact ⟨rfl, rfl⟩))
    (fun os started H enc _ F => lifted os started H enc F)

end Go.Proofs.Ytmlpndcelfdlhaa.productOne
namespace Go.Proofs.Ytmlpndcelfdlhaa

/-- THE STATEMENT. -/
theorem productOneUpto_holds : Rows.ProductOneUptoSaid := productOne.over

end Go.Proofs.Ytmlpndcelfdlhaa
