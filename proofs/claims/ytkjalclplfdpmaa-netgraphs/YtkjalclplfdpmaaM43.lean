/-
  GLaw, GGraphsP.
-/
import Derived.Carry
import Derived.ShutString
import Derived.Test.YtkjalclplfdpmaaM35
import Derived.Test.YtkjalclplfdpmaaM41
import Derived.Test.YtkjalclplfdpmaaM42
import Derived.Test.YtkjalclplfdpmaaM7
/-
  PROVED HERE: whatever the graph, the text and the number, the statement sextantlaw15.NetGraphs (any graph's system: its states, what leads from one to the next, what is seen there; of any bytes) answers true and leaves its arguments as they were. Over the contracts of the program's functions.
-/
namespace Go.Proofs.Ytkjalclplfdpmaa.netGraphs
open Go.ChangeShapes Go.WideShapes Go.ChangeAt Go.RowKit
open Go.ChangeMaps (open_string shut_string)
set_option linter.unusedVariables false

theorem own : ownKnob Try.prog.godebug = none := by kernel_rfl

set_option maxRecDepth 100000 in
theorem lifted (HC : NCons) (os : Os) (started : os.Started) (H : Type) (enc : TypeId × Value → H) :
    ReturnsInHanded {} Try.checked os 3 .any (Rows.netGraphsSpec.pre6 enc Try.prog Try.f3 Rows.netGraphsRow.domain false) (Rows.netGraphsSpec.post enc Try.prog Try.f3 false true false false) := by
  refine returnsInHanded_of_change_sized (C := Try.checked) own started (by kernel_rfl) Try.func3
    (ChangeSpec.witness6 (enc := enc) (C := Try.checked) false ⟨#[], #[.agg #[.slice none 0 0], .string ByteArray.empty, .int .i64 0], []⟩ 8 (by kernel_rfl) (by kernel_rfl) (by kernel_rfl) (by kernel_rfl)) ?_
  intro W base args ds gs before hval0 hW hcnd hsz0 _
  have hval : ∀ (j : Nat) t v, Try.f3.params[j]? = some t → args[j]? = some v → Value.okWide Try.prog W .any base t v := hval0
  have hsz : (DataW.weightsEach Try.prog (Try.f3.params.toList ++ Rows.netGraphsSpec.plain.varTypes Try.prog) (ds ++ gs)).all (· ≤ reachBytes) = true := hsz0
  have hW' := hW
  obtain ⟨p, q, hA0, hV, rfl, hfz, hnd⟩ := hW
  have hA : DataW.TrodAll enc Try.prog W 0 (fun _ => true) true Try.f3.params.toList args.toList ds p := hA0
  rw [Try.params3] at hA hval hsz
  obtain ⟨v0, vs0, d0, ds0, p0, q0, hargs, rfl, rfl, h0, r0⟩ := trodAll_cons hA
  obtain ⟨v1, vs1, d1, ds1, p1, q1, rfl, rfl, rfl, h1, r1⟩ := trodAll_cons r0
  obtain ⟨v2, vs2, d2, ds2, p2, q2, rfl, rfl, rfl, h2, r2⟩ := trodAll_cons r1
  obtain ⟨rfl, rfl, rfl⟩ := trodAll_nil r2
  obtain rfl : args = #[v0, v1, v2] := by cases args; simp_all
  obtain ⟨rfl, rfl⟩ := trodVars_none hV
  obtain ⟨cs0, rfl, hcs0⟩ := okWide_struct Try.underlying24 (hval 0 24 v0 rfl rfl)
  obtain ⟨x0, rfl⟩ := n_arr1 (hcs0.trans n_cellsNet)
  have g0 := h0
  obtain ⟨fuel0, hf0⟩ := h0
  have hz0 : ∀ n ∈ d0.weights Try.prog 24, n ≤ reachBytes := fun n hn => by
    have := List.all_eq_true.1 hsz0 n (DataW.weights_mem_each (j := 0) (t := 24) (d := d0) (by rw [Try.params3]; rfl) rfl n hn)
    simpa using this
  obtain ⟨ao0, cap0, ns0, rfl, hs0, hft⟩ := open_netF (x := (d0, p0)) (by simpa [Value.cells] using hf0) hz0
  obtain ⟨a1, rfl, rfl, rfl, w1⟩ := open_string Try.underlying9 (hval 1 9 v1 rfl rfl) h1
  obtain ⟨a2, rfl, rfl, rfl, w2⟩ := open_int Try.underlying3 (hval 2 3 v2 rfl rfl) h2
  have z1 := sized_string hsz (j := 1) rfl rfl
  have hst : Short a1 := by
    have e : a1.data.toList.length = a1.size := by rw [Array.length_toList]; rfl
    unfold reachBytes at z1
    unfold Short
    omega
  clear hA0 hval0 hsz hsz0 hz0
  simp only [List.append_nil] at hW'
  refine (NetGraphs_walk HC W ns0 hs0 hft a1 hst a2 (bounds_i64 w2)).mono fun e W' ⟨he, hg0⟩ => ?_
  subst he
  have hg : Below W.heap.size W W' := hg0.nu_below
  have hlt0 : ∀ x ∈ p0, x.block < W.heap.size := fun x hx => hW'.lt x (by simp [hx])
  exact ⟨_, rfl, post_of_kept (pa := p0 ++ ([] ++ ([] ++ []))) (pv := []) hW' (fun _ _ _ => (trodAll_cons_mk (shut_bool Try.underlying4 _) trodAll_mk0))
    (trodAll_cons_mk (Below.trod n_laidOut (by kernel_rfl) (of_decide_eq_true (by kernel_rfl)) g0 hg hlt0) (trodAll_cons_mk (shut_string Try.underlying9 w1) (trodAll_cons_mk (shut_int Try.underlying3 w2) trodAll_mk0))) rfl hg⟩

theorem over (HC : NCons) : Rows.netGraphsRow.holds Try.pinned (OpenSpec.ofChange Rows.netGraphsSpec) :=
  OpenClaim.holds_of_wide 3 Try.f3 rfl rfl rfl rfl rfl rfl rfl ⟨rfl, rfl, rfl, rfl, rfl⟩ rfl rfl rfl rfl rfl (by kernel_rfl) Try.func3 (by kernel_rfl)
    (of_decide_eq_true (by kernel_rfl)) (by unfold Func.isWrapper; first | (rw [if_pos (by decide +kernel)]; kernel_rfl) | (rw [if_neg (by decide +kernel)]; exact ⟨rfl, rfl⟩))
    (fun os started H enc _ => lifted HC os started H enc)

end Go.Proofs.Ytkjalclplfdpmaa.netGraphs
namespace Go.Proofs.Ytkjalclplfdpmaa

/-- THE STATEMENT, over the contracts. -/
theorem netGraphs_of (HC : NCons) : Rows.NetGraphsSaid := netGraphs.over HC

end Go.Proofs.Ytkjalclplfdpmaa
/-
  PROVED HERE: whatever the graph, the text and the number, the statement sextantlaw15.NetGraphs (any graph's system: its states, what leads from one to the next, what is seen there; of any bytes) answers true and leaves its arguments as they were. No condition.
-/
namespace Go.Proofs.Ytkjalclplfdpmaa

/-- THE STATEMENT. -/
theorem netGraphs_holds : Rows.NetGraphsSaid := netGraphs_of nCons

end Go.Proofs.Ytkjalclplfdpmaa
