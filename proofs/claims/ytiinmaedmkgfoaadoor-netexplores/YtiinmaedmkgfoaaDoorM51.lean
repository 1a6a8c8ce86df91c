/-
  JLawExplores.
-/
import Derived.Carry
import Derived.Deep.DeepLaidRun
import Derived.Test.YtiinmaedmkgfoaaDoorCards
import Derived.Test.YtiinmaedmkgfoaaDoorTie
import Derived.Test.YtiinmaedmkgfoaaDoorM20
import Derived.Test.YtiinmaedmkgfoaaDoorM41
import Derived.Test.YtiinmaedmkgfoaaDoorM42
import Derived.Test.YtiinmaedmkgfoaaDoorM46
import Derived.Test.YtiinmaedmkgfoaaDoorM50
/-
  PROVED HERE: whatever the graph, the processes and the number, the statement sextantlaw15.NetExplores (what is reached in any system, numbered as it is met, or refused as told) answers true and leaves its arguments as they were; the table of package math/bits that the program lays by its own text is tied to it. No other condition.
-/
namespace Go.Proofs.YtiinmaedmkgfoaaDoor

/-- The contracts of the program's functions on processes. -/
theorem nConsU : NConsU where
  explS := fun w most => (explN_any w most).mono (fun e w' ⟨h1, h2⟩ => ⟨h1, _, _, _, _, _, _, h2⟩)
  ofT := fun w v0 v1 v2 t h hT => (OfThreads_any w v0 v1 v2 t h hT).mono (fun e w' ⟨h1, h2⟩ => ⟨h1, by
    rcases h2 with ⟨_, h3⟩ | ⟨hm, tb, h3, h4⟩
    · exact .inl ⟨150, h3, by decide⟩
    · exact .inr ⟨_, _, _, threadSem t, h3, h4.sys hm hT h1, thread_fine t hm⟩⟩)

end Go.Proofs.YtiinmaedmkgfoaaDoor
namespace Go.Proofs.YtiinmaedmkgfoaaDoor.netExplores
open Go.ChangeShapes Go.WideShapes Go.ChangeAt Go.RowKit
set_option linter.unusedVariables false

theorem own : ownKnob Tryd.prog.godebug = none := by kernel_rfl

theorem witness (os : Os) {H : Type} (enc : TypeId × Value → H) : ∃ (w : World) (tape : Tape) (i : Input), w.os = os ∧ (w.forCall tape i).Shaped Tryd.checked.prog ∧ i.vars = [] ∧ Input.okWide Tryd.checked.prog (w.forCall tape i) .any w.heap.size 4 i ∧
      ((Rows.netExploresSpec.pre enc Tryd.checked.prog Tryd.f4 [] false (w.forCall tape i).memory i.args ∧ laidMetH Tryd.prog Rows.netExploresRow.laid (w.forCall tape i).memory) ∧ sizedMet enc Tryd.checked.prog Tryd.f4 (OpenSpec.ofChange Rows.netExploresSpec) false (w.forCall tape i).memory i.args) ∧ ({} : Assume).holds Tryd.checked.prog (lone (Frame.enter Tryd.checked.prog 4 i.args .normal) [] (w.forCall tape i)) :=
  ChangeSpec.witness_at (enc := enc) (C := Tryd.checked) (os := os) (X := fun w _ => laidMetH Tryd.prog Rows.netExploresRow.laid w) false
    { World.holding Tryd.prog os ⟨#[], #[], []⟩ with heap := tabHeap (World.holding Tryd.prog os ⟨#[], #[], []⟩).heap } #[.agg #[.slice none 0 0], .agg #[.slice none 0 0, .slice none 0 0, .slice none 0 0], .int .i64 0] 8 rfl (by kernel_rfl) (by kernel_rfl) (by kernel_rfl) (by kernel_rfl) (by kernel_rfl)
    (laidMet_of_run3 8 (by kernel_rfl) (by kernel_rfl) (by kernel_rfl))

set_option maxRecDepth 100000 in
theorem lifted (os : Os) (started : os.Started) (H : Type) (enc : TypeId × Value → H) :
    ReturnsInHanded {} Tryd.checked os 4 .any (fun w args => (Rows.netExploresSpec.pre enc Tryd.prog Tryd.f4 [] false w args ∧ laidMetH Tryd.prog Rows.netExploresRow.laid w) ∧ sizedMet enc Tryd.prog Tryd.f4 (OpenSpec.ofChange Rows.netExploresSpec) false w args)
      (Rows.netExploresSpec.post enc Tryd.prog Tryd.f4 false true false false) := by
  refine handed_laid (C := Tryd.checked) (X := fun w _ => laidMetH Tryd.prog Rows.netExploresRow.laid w) (fun _ _ _ hh h => h.of_heap hh) own started (by kernel_rfl) Tryd.func4 (witness os enc) ?_
  intro W base args ds gs before hval0 hW hL hsh hsz0
  have hval : ∀ (j : Nat) t v, Tryd.f4.params[j]? = some t → args[j]? = some v → Value.okWide Tryd.prog W .any base t v := hval0
  have hW' := hW
  obtain ⟨p, q, hA0, hV, rfl, hfz, hnd⟩ := hW
  have hA : DataW.TrodAll enc Tryd.prog W 0 (fun _ => true) true Tryd.f4.params.toList args.toList ds p := hA0
  rw [Tryd.params4] at hA hval
  obtain ⟨v0, vs0, d0, ds0, p0, q0, hargs, rfl, rfl, h0, r0⟩ := trodAll_cons hA
  obtain ⟨v1, vs1, d1, ds1, p1, q1, rfl, rfl, rfl, h1, r1⟩ := trodAll_cons r0
  obtain ⟨v2, vs2, d2, ds2, p2, q2, rfl, rfl, rfl, h2, r2⟩ := trodAll_cons r1
  obtain ⟨rfl, rfl, rfl⟩ := trodAll_nil r2
  obtain rfl : args = #[v0, v1, v2] := by cases args; simp_all
  obtain ⟨rfl, rfl⟩ := trodVars_none hV
  obtain ⟨cs0, rfl, hcs0⟩ := okWide_struct Tryd.underlying46 (hval 0 46 v0 rfl rfl)
  obtain ⟨x0, rfl⟩ := n_arr1 (hcs0.trans n_cellsNet)
  obtain ⟨cs1, rfl, hcs1⟩ := okWide_struct Tryd.underlying26 (hval 1 26 v1 rfl rfl)
  obtain ⟨t0, t1, t2, rfl⟩ := n_arr3 (hcs1.trans n_cellsThr)
  have g0 := h0
  have g1 := h1
  obtain ⟨fuel0, hf0⟩ := h0
  obtain ⟨fuel1, hf1⟩ := h1
  have hz0 : ∀ n ∈ d0.weights Tryd.prog 46, n ≤ reachBytes := fun n hn => by
    have := List.all_eq_true.1 hsz0 n (DataW.weights_mem_each (j := 0) (t := 46) (d := d0) (by rw [Tryd.params4]; rfl) rfl n hn)
    simpa using this
  have hz1 : ∀ n ∈ d1.weights Tryd.prog 26, n ≤ reachBytes := fun n hn => by
    have := List.all_eq_true.1 hsz0 n (DataW.weights_mem_each (j := 1) (t := 26) (d := d1) (by rw [Tryd.params4]; rfl) rfl n hn)
    simpa using this
  obtain ⟨ao0, cap0, ns0, rfl, hs0⟩ := open_net (x := (d0, p0)) (by simpa [Value.cells] using hf0) hz0
  obtain ⟨t, ht⟩ := open_thr (x := (d1, p1)) (by simpa [Value.cells] using hf1) hz1
  obtain ⟨a2, rfl, rfl, rfl, w2⟩ := open_int Tryd.underlying3 (hval 2 3 v2 rfl rfl) h2
  clear hA0 hval0 hsz0 hz0 hz1
  simp only [List.append_nil] at hW'
  refine (NetExplores_walk nCons nConsU W ns0 hs0 t0 t1 t2 t ht a2 (bounds_i64 w2) (tab_of_laid hL)).mono fun e W' ⟨he, hg0⟩ => ?_
  subst he
  have hg : Below W.heap.size W W' := hg0.nu_below
  have hlt0 : ∀ x ∈ p0, x.block < W.heap.size := fun x hx => hW'.lt x (by simp [hx])
  have hlt1 : ∀ x ∈ p1, x.block < W.heap.size := fun x hx => hW'.lt x (by simp [hx])
  exact ⟨_, rfl, post_of_kept (pa := p0 ++ (p1 ++ ([] ++ []))) (pv := []) hW' (fun _ _ _ => (trodAll_cons_mk (shut_bool Tryd.underlying4 _) trodAll_mk0))
    (trodAll_cons_mk (Below.trod n_laidOut (by kernel_rfl) (of_decide_eq_true (by kernel_rfl)) g0 hg hlt0) (trodAll_cons_mk (Below.trod n_laidOut (by kernel_rfl) (of_decide_eq_true (by kernel_rfl)) g1 hg hlt1) (trodAll_cons_mk (shut_int Tryd.underlying3 w2) trodAll_mk0))) rfl hg⟩

theorem over : Rows.netExploresRow.holds Tryd.pinned (OpenSpec.ofChange Rows.netExploresSpec) :=
  OpenClaim.holds_of_wide 4 Tryd.f4 rfl rfl rfl rfl rfl rfl rfl ⟨rfl, rfl, rfl, rfl, rfl⟩ rfl rfl rfl rfl rfl (by kernel_rfl) Tryd.func4 (by kernel_rfl)
    (of_decide_eq_true (by kernel_rfl)) (by unfold Func.isWrapper; first | (rw [if_pos (by decide +kernel)]; kernel_rfl) | (rw [if_neg (by decide +kernel)]; exact ⟨rfl, rfl⟩))
    (fun os started H enc _ => lifted os started H enc)

end Go.Proofs.YtiinmaedmkgfoaaDoor.netExplores
namespace Go.Proofs.YtiinmaedmkgfoaaDoor

/-- THE STATEMENT: the tied card. -/
theorem netExplores_card : Rows.NetExploresCardSaid :=
  Claim7.holds_tied_plain_at .later [] [.data] true (true, "f55a264c44bf426132aa9c385a3d077f9c96a6f26cf1b0f62f367294625d3e75") false
    netExplores.over (fun _ h => by cases h) (by kernel_rfl) (fun _ h => by cases h) netExplores_row_tie rfl ⟨rfl, rfl⟩ (by kernel_rfl) rfl
    (fun f fn hf hfn => by
      obtain rfl : f = 4 := Option.some.inj ((show Tryd.prog.funcNamed "sextant/sextantlaw15.NetExplores" = some 4 by kernel_rfl).symm.trans hf) |>.symm
      obtain rfl : fn = Tryd.f4 := (Option.some.inj (Tryd.func4.symm.trans hfn)).symm
      exact ⟨by kernel_rfl, fun j t ht => by
        rw [Tryd.params4] at ht
        have h3 : t = 46 ∨ t = 26 ∨ t = 3 := by
          rcases j with _ | _ | _ | j
          · exact .inl (by simpa using ht.symm)
          · exact .inr (.inl (by simpa using ht.symm))
          · exact .inr (.inr (by simpa using ht.symm))
          · simp at ht
        rcases h3 with rfl | rfl | rfl
        · exact (show Tryd.prog.wantsStandIn 46 = false by kernel_rfl)
        · exact (show Tryd.prog.wantsStandIn 26 = false by kernel_rfl)
        · exact (show Tryd.prog.wantsStandIn 3 = false by kernel_rfl)⟩)
    (by kernel_rfl)

end Go.Proofs.YtiinmaedmkgfoaaDoor
