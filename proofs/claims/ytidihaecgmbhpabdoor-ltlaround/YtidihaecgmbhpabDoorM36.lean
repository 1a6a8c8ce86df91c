/-
  VLaid2.
-/
import Derived.Test.YtidihaecgmbhpabDoorM14
import Derived.Test.YtidihaecgmbhpabDoorM17
import Derived.Test.YtidihaecgmbhpabDoorM27
import Derived.Test.YtidihaecgmbhpabDoorM29
import Derived.Test.YtidihaecgmbhpabDoorM32
import Derived.Test.YtidihaecgmbhpabDoorM33
import Derived.Test.YtidihaecgmbhpabDoorM34
import Derived.Test.YtidihaecgmbhpabDoorM35
/-
  The tables' cells out of what the row lists; the contracts of the program's functions, all together.
-/
set_option linter.unusedSimpArgs false
set_option linter.unusedVariables false
namespace Go.Proofs.YtidihaecgmbhpabDoor
open Go.ChangeShapes Go.WideShapes Go.ChangeAt Go.RowKit Q

theorem g3_of_laid {W : World} (h : laidMet Tryd.prog [("sextant/ltl.shapes", Rows.laid_sextant_ltl_shapes), ("sextant/ltl.signs", Rows.laid_sextant_ltl_signs), ("sextant/ltl.reserved", Rows.laid_sextant_ltl_reserved)] W) (hsh : W.ShapedOpen Tryd.prog) : G3 W := by
  obtain ⟨ps, ⟨g, t, cs, fuel, p, q, hg, ht, hvar, hd, ⟨g', t', cs', fuel', p', q', hg', ht', hvar', hd', ⟨g'', t'', cs'', fuel'', p'', q'', hg'', ht'', hvar'', hd'', _, _⟩, _⟩, _⟩, _⟩ := h
  obtain rfl := Option.some.inj (gShpT.symm.trans (by rw [Option.some.inj (gShp.symm.trans hg)]; exact ht))
  obtain rfl := Option.some.inj (gSgnT.symm.trans (by rw [Option.some.inj (gSgn.symm.trans hg')]; exact ht'))
  obtain rfl := Option.some.inj (gResT.symm.trans (by rw [Option.some.inj (gRes.symm.trans hg'')]; exact ht''))
  have e1 := flat_arr (k := 5) Tryd.underlying85 cells_shape (by kernel_rfl) flat_shape hd
  have e2 := flat_arr (k := 2) Tryd.underlying110 cells_spell (by kernel_rfl) flat_spell hd'
  have e3 := flat_arr (k := 2) Tryd.underlying125 cells_spell (by kernel_rfl) flat_spell hd''
  have b1 := block_of 85 gShp hvar hsh (of_decide_eq_true (by kernel_rfl)) (by kernel_rfl)
  have b2 := block_of 110 gSgn hvar' hsh (of_decide_eq_true (by kernel_rfl)) (by kernel_rfl)
  have b3 := block_of 125 gRes hvar'' hsh (of_decide_eq_true (by kernel_rfl)) (by kernel_rfl)
  have f1 : cs = shapeC := by
    cases cs
    simp only at e1
    subst e1
    kernel_rfl
  have f2 : cs' = spellC sgnT := by
    cases cs'
    simp only at e2
    subst e2
    kernel_rfl
  have f3 : cs'' = spellC resT := by
    cases cs''
    simp only at e3
    subst e3
    kernel_rfl
  rw [f1] at b1
  rw [f2] at b2
  rw [f3] at b3
  refine ⟨⟨b1, b2, b3⟩, ?_⟩
  have := lt_of_block b3
  omega

/-- The wrap: what is listed, and the world's shape. -/
theorem handed_laid {H : Type} {enc : TypeId × Value → H} {a : Assume} {C : Checked} {os : Os} {f : FuncId} {fn : Func} {s : ChangeSpec} {conds : List PathCond} {apart fresh handsOn again : Bool} {X : World → Array Value → Prop}
    (hX : ∀ (w w' : World) (args : Array Value), w.heap = w'.heap → X w args → X w' args)
    (own : ownKnob C.prog.godebug = none) (started : os.Started) (noInit : C.prog.inits.idxOf? f = none) (hfn : C.prog.funcs[f]? = some fn)
    (witness : ∃ (w : World) (tape : Tape) (i : Input), w.os = os ∧ (w.forCall tape i).Shaped C.prog ∧ i.vars = [] ∧ Input.okWide C.prog (w.forCall tape i) .any w.heap.size f i ∧
      ((s.pre enc C.prog fn conds apart (w.forCall tape i).memory i.args ∧ X (w.forCall tape i).memory i.args) ∧ sizedMet enc C.prog fn (OpenSpec.ofChange s) apart (w.forCall tape i).memory i.args) ∧ a.holds C.prog (lone (Frame.enter C.prog f i.args .normal) [] (w.forCall tape i)))
    (contract : ∀ (W : World) (base : Nat) (args : Array Value) (ds gs : List (DataW H)) (before : List MemPlace),
      (∀ (j : Nat) t v, fn.params[j]? = some t → args[j]? = some v → Value.okWide C.prog W .any base t v) →
      DataW.Whole enc C.prog fn.params.toList s.vars apart W args.toList ds gs before → X W args → W.ShapedOpen C.prog →
      (DataW.weightsEach C.prog (fn.params.toList ++ s.plain.varTypes C.prog) (ds ++ gs)).all (· ≤ reachBytes) = true →
      Calls C.prog f args W fun e W' => ∃ v, e = .returned v ∧ s.post enc C.prog fn apart fresh handsOn again W args v W') :
    ReturnsInHanded a C os f .any (fun w args => (s.pre enc C.prog fn conds apart w args ∧ X w args) ∧ sizedMet enc C.prog fn (OpenSpec.ofChange s) apart w args) (s.post enc C.prog fn apart fresh handsOn again) := by
  refine returnsInHanded_of_calls own started noInit witness ?_
  intro w tape i _ hsh _ hok hpre _
  obtain ⟨_, _, _, fn', hfn', _, _, _, _, hval⟩ := hok
  have e : fn' = fn := Option.some.inj (hfn'.symm.trans hfn)
  subst e
  obtain ⟨⟨⟨ds, gs, before, hw, _⟩, hx⟩, hz⟩ := hpre
  have hw' := DataW.Whole.of_heap (w' := w.forCall tape i) (by rfl) hw
  refine (contract (w.forCall tape i) w.heap.size i.args ds gs before hval hw' (hX _ _ _ (by rfl) hx) hsh (hz.weights hw)).mono fun e W' ⟨v, he, hp⟩ => ?_
  subst he
  exact ChangeSpec.post_blind hp

/-- A world that meets what is listed. -/
def laidHeap (h : Array Obj) : Array Obj := ((h.modify 0 fun | .cells _ t f => .cells shapeC t f | o => o).modify 1 fun | .cells _ t f => .cells (spellC sgnT) t f | o => o).modify 2 fun | .cells _ t f => .cells (spellC resT) t f | o => o

/-- All the contracts. -/
theorem cons : Cons where
  parse := fun s hs w hG => Parse_any' s hs w hG.1
  print := fun t hs w hG c0 c1 c2 h => Print_any' t hs w hG.1 hG.2 c0 c1 c2 h
  check := fun t hs w hG c0 c1 c2 h => by obtain ⟨a, h1, rfl⟩ := AIn.of h; exact Check_any' a hs w hG.1 c0 c1 c2 h1
  name := fun s hs w hG => IsName_any' s hs w hG.1
  names := fun t hs w hG c0 c1 c2 h => by obtain ⟨a, h1, rfl⟩ := AIn.of h; exact Names_any' a hs w c0 c1 c2 h1
  size := fun t hs w hG c0 c1 c2 h => by obtain ⟨a, h1, rfl⟩ := AIn.of h; exact Size_any' a w c0 c1 c2 h1
  same := fun t u hs hu w hG c0 c1 c2 d0 d1 d2 h k => by obtain ⟨a, h1, rfl⟩ := AIn.of h; obtain ⟨b, k1, rfl⟩ := AIn.of k; exact Same_any' a b hs w c0 c1 c2 d0 d1 d2 h1 k1
  normal := fun t hs w hG c0 c1 c2 h => Normal_any' t hs w hG.1 c0 c1 c2 h
  plain := fun t hs w hG c0 c1 c2 h => by obtain ⟨a, h1, rfl⟩ := AIn.of h; exact Plain_any' a hs w hG.1 c0 c1 c2 h1

end Go.Proofs.YtidihaecgmbhpabDoor
