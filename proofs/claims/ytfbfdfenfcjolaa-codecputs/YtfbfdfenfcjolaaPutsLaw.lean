/-
  PROVED HERE: whatever the room and whatever is put, the statement sextantlaw01.CodecPuts (what is put stands there as its bytes, as long as there is room) answers true and leaves its arguments as they were. No condition.
-/
import Derived.Test.YtfbfdfenfcjolaaPutsWalk
import Derived.Test.YtfbfdfenfcjolaaDoes1
import Derived.Test.YtfbfdfenfcjolaaDoes2
import Derived.Test.YtfbfdfenfcjolaaDoes3
import Derived.Test.YtfbfdfenfcjolaaDoes4
import Derived.Test.YtfbfdfenfcjolaaItemsRow
import Derived.Carry
namespace Go.Proofs.Ytfbfdfenfcjolaa.codecPuts
open Go.ChangeShapes Go.WideShapes Go.ChangeAt Go.RowKit
set_option linter.unusedVariables false

theorem does_all : DoesAll := by
  intro W bb xb B ab cb bs room h hB x hx
  have h0 := pickN_lo x.kind (n := 5) (by omega)
  have h1 := pickN_hi x.kind (n := 5) (by omega)
  have h2 : pickN x.kind 5 = 0 ∨ pickN x.kind 5 = 1 ∨ pickN x.kind 5 = 2 ∨ pickN x.kind 5 = 3 ∨ pickN x.kind 5 = 4 := by omega
  rcases h2 with hk | hk | hk | hk | hk
  · exact does_kind0 W h hB x hx hk
  · exact does_kind1 W h hB x hx hk
  · exact does_kind2 W h hB x hx hk
  · exact does_kind3 W h hB x hx hk
  · exact does_kind4 W h hB x hx hk

theorem own : ownKnob Try.prog.godebug = none := by kernel_rfl

set_option maxRecDepth 100000 in
theorem lifted (os : Os) (started : os.Started) (H : Type) (enc : TypeId × Value → H) :
    ReturnsInHanded {} Try.checked os 3 .any (Rows.codecPutsSpec.pre6 enc Try.prog Try.f3 Rows.codecPutsRow.domain false) (Rows.codecPutsSpec.post enc Try.prog Try.f3 false true false false) := by
  refine returnsInHanded_of_change_sized (C := Try.checked) own started (by kernel_rfl) Try.func3
    (ChangeSpec.witness6 (enc := enc) (C := Try.checked) false ⟨#[], #[.int .i64 0, .slice none 0 0], []⟩ 8 (by kernel_rfl) (by kernel_rfl) (by kernel_rfl) (by kernel_rfl)) ?_
  intro W base args ds gs before hval0 hW hcnd hsz0 _
  have hval : ∀ (j : Nat) t v, Try.f3.params[j]? = some t → args[j]? = some v → Value.okWide Try.prog W .any base t v := hval0
  have hsz : (DataW.weightsEach Try.prog (Try.f3.params.toList ++ Rows.codecPutsSpec.plain.varTypes Try.prog) (ds ++ gs)).all (· ≤ reachBytes) = true := hsz0
  have hW' := hW
  obtain ⟨p, q, hA0, hV, rfl, hfz, hnd⟩ := hW
  have hA : DataW.TrodAll enc Try.prog W 0 (fun _ => true) true Try.f3.params.toList args.toList ds p := hA0
  rw [Try.params3] at hA hval hsz
  obtain ⟨v0, vs0, d0, ds0, p0, q0, hargs, rfl, rfl, h0, r0⟩ := trodAll_cons hA
  obtain ⟨v1, vs1, d1, ds1, p1, q1, rfl, rfl, rfl, h1, r1⟩ := trodAll_cons r0
  obtain ⟨rfl, rfl, rfl⟩ := trodAll_nil r1
  obtain rfl : args = #[v0, v1] := by cases args; simp_all
  obtain ⟨rfl, rfl⟩ := trodVars_none hV
  obtain ⟨a0, rfl, rfl, rfl, w0⟩ := open_int Try.underlying3 (hval 0 3 v0 rfl rfl) h0
  obtain ⟨ao, len, cap, rfl⟩ := okWide_slice Try.underlying22 (hval 1 22 v1 rfl rfl)
  have h1k := h1
  obtain ⟨fuel, hf⟩ := h1
  obtain ⟨I, hI⟩ := open_puts (x := (d1, p1)) (by simpa [Value.cells] using hf) (fun k hk => by
    have := List.all_eq_true.1 hsz k (DataW.weights_mem_each (j := 1) rfl rfl k hk)
    simpa using this)
  clear hA0 hval0 hsz hsz0
  simp only [List.append_nil] at hW'
  refine (walk_of a0 ao len cap I W hI does_all).mono fun e W' ⟨he, hg⟩ => ?_
  subst he
  have hlt : ∀ x ∈ p1, x.block < W.heap.size := fun x hx => hW'.lt x (by simpa using hx)
  exact ⟨_, rfl, post_of_kept (pa := [] ++ (p1 ++ [])) (pv := []) hW' (fun _ _ _ => (trodAll_cons_mk (shut_bool Try.underlying4 _) trodAll_mk0))
    (trodAll_cons_mk (shut_int Try.underlying3 w0) (trodAll_cons_mk (Below.trod Try.laidOut (by kernel_rfl) (of_decide_eq_true (by kernel_rfl)) h1k hg hlt) trodAll_mk0)) rfl hg⟩

theorem over : Rows.codecPutsRow.holds Try.pinned (OpenSpec.ofChange Rows.codecPutsSpec) :=
  OpenClaim.holds_of_wide 3 Try.f3 rfl rfl rfl rfl rfl rfl rfl ⟨rfl, rfl, rfl, rfl, rfl⟩ rfl rfl rfl rfl rfl (by kernel_rfl) Try.func3 (by kernel_rfl)
    (of_decide_eq_true (by kernel_rfl)) (by unfold Func.isWrapper; first | (rw [if_pos (by decide +kernel)]; kernel_rfl) | (rw [if_neg (by decide +kernel)]; exact ⟨rfl, rfl⟩))
    (fun os started H enc _ => lifted os started H enc)

end Go.Proofs.Ytfbfdfenfcjolaa.codecPuts
namespace Go.Proofs.Ytfbfdfenfcjolaa

/-- THE STATEMENT. -/
theorem codecPuts_holds : Rows.CodecPutsSaid := codecPuts.over

end Go.Proofs.Ytfbfdfenfcjolaa
