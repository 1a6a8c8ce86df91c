/-
  JLaid.
-/
import Derived.Handed
import Derived.HandedShaped
import Derived.OpenShut
import Derived.ProofKit
import Derived.Shelf.Vars
import Derived.ShutString
import Derived.SizedLaws
import Derived.Test.YtiinmaedmkgfoaaDoorRows
import Derived.Test.YtiinmaedmkgfoaaDoorM37
import Derived.Test.YtiinmaedmkgfoaaDoorM7
/-
  What the row lists of the table of package math/bits: the cells that hold it; a world that meets it; the wrap.
-/
set_option linter.unusedSimpArgs false
set_option linter.unusedVariables false
namespace Go.Proofs.YtiinmaedmkgfoaaDoor
open Go.ChangeShapes Go.WideShapes Go.ChangeAt Go.RowKit

/-- The cells that a plain datum stands for. -/
def flatL {H : Type} : DataW H → List Value
  | .lit (.int k n) => [.int k n]
  | _ => []
theorem flat_u8 {H : Type} {enc : TypeId × Value → H} {w : World} {base : Nat} {sp : Nat → Bool} {held : Bool} (fuel : Nat) (cs : List Value) (y : DataW H × List MemPlace)
    (h : DataW.trod enc Tryd.prog w base sp held fuel 5 cs = some y) : cs = flatL y.1 := by
  obtain ⟨n, hc, hy, _⟩ := DataW.trod_int Tryd.underlying5 h
  subst hy
  rw [hc]
  simp [flatL]

theorem range_take {α : Type} (cs : List α) (k : Nat) : ∀ n, (List.range n).flatMap (fun i => (cs.drop (i * k)).take k) = cs.take (n * k)
  | 0 => by simp
  | n + 1 => by
    rw [List.range_succ, List.flatMap_append, range_take cs k n]
    simp only [List.flatMap_cons, List.flatMap_nil, List.append_nil]
    rw [Nat.add_mul, Nat.one_mul, List.take_add]

theorem flat_arrL {H : Type} {enc : TypeId × Value → H} {w : World} {base : Nat} {sp : Nat → Bool} {held : Bool} {fuel : Nat} {t e : TypeId} {n k : Nat} {cs : List Value} {ds : List (DataW H)} {p : List MemPlace}
    (ht : Tryd.prog.underlying t = some (.array n e)) (he : Tryd.prog.cellsOf e = k) (hn : Tryd.prog.cellsOf t = n * k) (hS : ∀ (m : Nat) (c : List Value) y, DataW.trod enc Tryd.prog w base sp held m e c = some y → c = flatL y.1)
    (h : DataW.trod enc Tryd.prog w base sp held fuel t cs = some (.agg ds, p)) : cs = ds.flatMap flatL := by
  obtain ⟨xs, m, _, hx, hl, hlen, hi⟩ := DataW.trod_array ht h
  have hds : ds = xs.map (·.1) := DataW.agg.inj (Prod.mk.inj hx).1
  rw [he] at hi
  rw [hn] at hl
  have e1 : cs = (List.range n).flatMap (fun i => (cs.drop (i * k)).take k) := ((range_take cs k n).trans (List.take_of_length_le (Nat.le_of_eq hl))).symm
  rw [hds]
  have e2 : xs = (List.range n).filterMap (fun i => xs[i]?) := by
    apply List.ext_getElem?
    intro i
    subst hlen
    clear e1 hi hl hn hx hds h ht
    induction xs generalizing i with
    | nil => simp
    | cons a xs ih =>
      rw [List.length_cons, List.range_succ_eq_map, List.filterMap_cons]
      simp only [List.getElem?_cons_zero]
      cases i with
      | zero => simp
      | succ i =>
        simp only [List.getElem?_cons_succ]
        rw [ih i, List.filterMap_map]
        rfl
  have e3 : ∀ l : List Nat, (∀ i ∈ l, i < n) → l.flatMap (fun i => (cs.drop (i * k)).take k) = ((l.filterMap (fun i => xs[i]?)).map (·.1)).flatMap flatL := fun l => by
    induction l with
    | nil => simp
    | cons i l ih =>
      intro hl
      have h1 := hi i (hl i (by simp))
      have hlt : i < xs.length := by rw [hlen]; exact hl i (by simp)
      have h2 := List.getElem?_eq_getElem hlt
      rw [h2] at h1
      have h3 := hS m _ _ h1
      rw [List.flatMap_cons, List.filterMap_cons, h2]
      simp only [List.map_cons, List.flatMap_cons]
      rw [ih (fun j hj => hl j (by simp [hj])), h3]
  exact e1.trans ((e3 _ (fun i hi => List.mem_range.1 hi)).trans (congrArg (fun l => (l.map (·.1)).flatMap flatL) e2.symm))

theorem cells_u8 : Tryd.prog.cellsOf 5 = 1 := by kernel_rfl
theorem gTab : Tryd.prog.globalNamed "math/bits.deBruijn64tab" = some 0 := by kernel_rfl
theorem gTabT : (Tryd.prog.globals[0]?).map (·.type) = some 169 := by kernel_rfl

def tabC : Array Value := (Lib.deBruijn64tab.map fun (n : Nat) => Value.int .u8 (n : Int)).toArray

theorem tab_of_laid {W : World} (h : laidMetH Tryd.prog [("math/bits.deBruijn64tab", Rows.laid_math_bits_deBruijn64tab)] W) : TabAt 0 Lib.deBruijn64tab W := by
  obtain ⟨ps, ⟨g, t, cs, fuel, p, q, hg, ht, hvar, hd, _, _⟩, _⟩ := h
  obtain rfl := Option.some.inj (gTab.symm.trans hg)
  obtain rfl := Option.some.inj (gTabT.symm.trans ht)
  have e1 := flat_arrL (k := 1) Tryd.underlying169 cells_u8 (by kernel_rfl) flat_u8 hd
  have f1 : cs = tabC := by
    cases cs
    simp only at e1
    subst e1
    kernel_rfl
  intro j hj
  have := World.var?_cell gTab hvar j
  rw [this, f1, tabC, List.getElem?_toArray, List.getElem?_map, List.getElem?_eq_getElem hj]
  simp [List.getD_eq_getElem?_getD, List.getElem?_eq_getElem hj]

/-- The wrap: what is listed, and the world's shape. -/
theorem handed_laid {H : Type} {enc : TypeId × Value → H} {a : Assume} {C : Checked} {os : Os} {f : FuncId} {fn : Func} {s : ChangeSpec} {conds : List PathCond} {apart fresh handsOn again : Bool} {X : World → Array Value → Prop}
    (hX : ∀ (w w' : World) (args : Array Value), w.heap = w'.heap → X w args → X w' args)
    (own : ownKnob C.prog.godebug = none) (started : os.Started) (noInit : C.prog.inits.idxOf? f = none) (hfn : C.prog.funcs[f]? = some fn)
    (witness : ∃ (w : World) (tape : Tape) (i : Input), w.os = os ∧ (w.forCall tape i).Shaped C.prog ∧ i.vars = [] ∧ Input.okWide C.prog (w.forCall tape i) .any w.heap.size f i ∧
      ((s.pre enc C.prog fn conds apart (w.forCall tape i).memory i.args ∧ X (w.forCall tape i).memory i.args) ∧ sizedMet enc C.prog fn (OpenSpec.ofChange s) apart (w.forCall tape i).memory i.args) ∧ a.holds C.prog (lone (Frame.enter C.prog f i.args .normal) [] (w.forCall tape i)))
    (contract : ∀ (W : World) (base : Nat) (args : Array Value) (ds gs : List (DataW H)) (before : List MemPlace),
      (∀ (j : Nat) t v, fn.params[j]? = some t → args[j]? = some v → Value.okWide C.prog W .any base t v) →
      DataW.Whole enc C.prog fn.params.toList s.vars apart W args.toList ds gs before → X W args → W.ShapedOpen C.prog →
      (DataW.weightsEach C.prog (fn.params.toList ++ s.plain.varTypes C.prog) (ds ++ gs)).all (· ≤ reachBytes) = true →
      Calls C.prog f args W fun e W' => ∃ v, e = .returned v ∧ s.post enc C.prog fn apart fresh handsOn again W args v W') :
    ReturnsInHanded a C os f .any (fun w args => (s.pre enc C.prog fn conds apart w args ∧ X w args) ∧ sizedMet enc C.prog fn (OpenSpec.ofChange s) apart w args) (s.post enc C.prog fn apart fresh handsOn again) := by
  refine returnsInHanded_of_calls own started noInit witness ?_
  intro w tape i _ hsh _ hok hpre _
  obtain ⟨_, _, _, fn', hfn', _, _, _, _, hval⟩ := hok
  have e : fn' = fn := Option.some.inj (hfn'.symm.trans hfn)
  subst e
  obtain ⟨⟨⟨ds, gs, before, hw, _⟩, hx⟩, hz⟩ := hpre
  have hw' := DataW.Whole.of_heap (w' := w.forCall tape i) (by rfl) hw
  refine (contract (w.forCall tape i) w.heap.size i.args ds gs before hval hw' (hX _ _ _ (by rfl) hx) hsh (hz.weights hw)).mono fun e W' ⟨v, he, hp⟩ => ?_
  subst he
  exact ChangeSpec.post_blind hp

/-- A world that meets what is listed. -/
def tabHeap (h : Array Obj) : Array Obj := h.modify 0 fun | .cells _ t f => .cells tabC t f | o => o

end Go.Proofs.YtiinmaedmkgfoaaDoor
