/-
  VLaid.
-/
import Derived.Deep.Strs
import Derived.Handed
import Derived.HandedShaped
import Derived.OpenShut
import Derived.ProofKit
import Derived.Shelf.Vars
import Derived.ShutString
import Derived.SizedLaws
import Derived.Test.YtidihaecgmbhpabDoorRows
import Derived.Test.YtidihaecgmbhpabDoorM10
/-
  What the row lists of the program's own tables: the cells that hold them.
-/
set_option linter.unusedSimpArgs false
set_option linter.unusedVariables false
namespace Go.Proofs.YtidihaecgmbhpabDoor
open Go.ChangeShapes Go.WideShapes Go.ChangeAt Go.RowKit Q

/-- The cells that a plain datum stands for. -/
def flatL {H : Type} : DataW H → List Value
  | .lit (.string l) => [.string (strOfL l)]
  | .lit (.int k n) => [.int k n]
  | _ => []
def flatS {H : Type} : DataW H → List Value
  | .agg xs => xs.flatMap flatL
  | _ => []

theorem flat_str {H : Type} {enc : TypeId × Value → H} {w : World} {base : Nat} {sp : Nat → Bool} {held : Bool} {fuel : Nat} {cs : List Value} {y : DataW H × List MemPlace}
    (h : DataW.trod enc Tryd.prog w base sp held fuel 9 cs = some y) : cs = flatL y.1 := by
  obtain ⟨s, hc, hy, _⟩ := DataW.trod_string Tryd.underlying9 h
  subst hy
  rw [hc]
  simp [flatL, strOfL]
theorem flat_int {H : Type} {enc : TypeId × Value → H} {w : World} {base : Nat} {sp : Nat → Bool} {held : Bool} {fuel : Nat} {cs : List Value} {y : DataW H × List MemPlace}
    (h : DataW.trod enc Tryd.prog w base sp held fuel 3 cs = some y) : cs = flatL y.1 := by
  obtain ⟨n, hc, hy, _⟩ := DataW.trod_int Tryd.underlying3 h
  subst hy
  rw [hc]
  simp [flatL]

theorem range_take {α : Type} (cs : List α) (k : Nat) : ∀ n, (List.range n).flatMap (fun i => (cs.drop (i * k)).take k) = cs.take (n * k)
  | 0 => by simp
  | n + 1 => by
    rw [List.range_succ, List.flatMap_append, range_take cs k n]
    simp only [List.flatMap_cons, List.flatMap_nil, List.append_nil]
    rw [Nat.add_mul, Nat.one_mul, List.take_add]

theorem flat_arr {H : Type} {enc : TypeId × Value → H} {w : World} {base : Nat} {sp : Nat → Bool} {held : Bool} {fuel : Nat} {t e : TypeId} {n k : Nat} {cs : List Value} {ds : List (DataW H)} {p : List MemPlace}
    (ht : Tryd.prog.underlying t = some (.array n e)) (he : Tryd.prog.cellsOf e = k) (hn : Tryd.prog.cellsOf t = n * k) (hS : ∀ (m : Nat) (c : List Value) y, DataW.trod enc Tryd.prog w base sp held m e c = some y → c = flatS y.1)
    (h : DataW.trod enc Tryd.prog w base sp held fuel t cs = some (.agg ds, p)) : cs = ds.flatMap flatS := by
  obtain ⟨xs, m, _, hx, hl, hlen, hi⟩ := DataW.trod_array ht h
  have hds : ds = xs.map (·.1) := DataW.agg.inj (Prod.mk.inj hx).1
  rw [he] at hi
  rw [hn] at hl
  have e1 : cs = (List.range n).flatMap (fun i => (cs.drop (i * k)).take k) := ((range_take cs k n).trans (List.take_of_length_le (Nat.le_of_eq hl))).symm
  rw [hds]
  have e2 : xs = (List.range n).filterMap (fun i => xs[i]?) := by
    apply List.ext_getElem?
    intro i
    subst hlen
    clear e1 hi hl hn hx hds h ht
    induction xs generalizing i with
    | nil => simp
    | cons a xs ih =>
      rw [List.length_cons, List.range_succ_eq_map, List.filterMap_cons]
      simp only [List.getElem?_cons_zero]
      cases i with
      | zero => simp
      | succ i =>
        simp only [List.getElem?_cons_succ]
        rw [ih i, List.filterMap_map]
        rfl
  have e3 : ∀ l : List Nat, (∀ i ∈ l, i < n) → l.flatMap (fun i => (cs.drop (i * k)).take k) = ((l.filterMap (fun i => xs[i]?)).map (·.1)).flatMap flatS := fun l => by
    induction l with
    | nil => simp
    | cons i l ih =>
      intro hl
      have h1 := hi i (hl i (by simp))
      have hlt : i < xs.length := by rw [hlen]; exact hl i (by simp)
      have h2 := List.getElem?_eq_getElem hlt
      rw [h2] at h1
      have h3 := hS m _ _ h1
      rw [List.flatMap_cons, List.filterMap_cons, h2]
      simp only [List.map_cons, List.flatMap_cons]
      rw [ih (fun j hj => hl j (by simp [hj])), h3]
  exact e1.trans ((e3 _ (fun i hi => List.mem_range.1 hi)).trans (congrArg (fun l => (l.map (·.1)).flatMap flatS) e2.symm))

theorem split2 {α : Type} {cs : List α} (h : cs.length = 2) : cs = (cs.drop 0).take 1 ++ (cs.drop 1).take 1 := by
  match cs, h with
  | [a, b], _ => rfl
theorem split5 {α : Type} {cs : List α} (h : cs.length = 5) : cs = (cs.drop 0).take 1 ++ ((cs.drop 1).take 1 ++ ((cs.drop 2).take 1 ++ ((cs.drop 3).take 1 ++ (cs.drop 4).take 1))) := by
  match cs, h with
  | [a, b, c, d, e], _ => rfl

theorem cells_str : Tryd.prog.cellsOf 9 = 1 := by kernel_rfl
theorem cells_int : Tryd.prog.cellsOf 3 = 1 := by kernel_rfl
theorem cells_spell : Tryd.prog.cellsOf 109 = 2 := by kernel_rfl
theorem cells_shape : Tryd.prog.cellsOf 84 = 5 := by kernel_rfl
theorem fields_spell : ∃ f0 f1, Tryd.prog.underlying 109 = some (.struct #[f0, f1]) ∧ f0.type = 9 ∧ f0.offset = 0 ∧ f1.type = 3 ∧ f1.offset = 1 := ⟨_, _, Tryd.underlying109, rfl, rfl, rfl, rfl⟩
theorem fields_shape : ∃ f0 f1 f2 f3 f4, Tryd.prog.underlying 84 = some (.struct #[f0, f1, f2, f3, f4]) ∧ f0.type = 9 ∧ f0.offset = 0 ∧ f1.type = 3 ∧ f1.offset = 1 ∧ f2.type = 3 ∧ f2.offset = 2 ∧ f3.type = 3 ∧ f3.offset = 3 ∧ f4.type = 3 ∧ f4.offset = 4 := ⟨_, _, _, _, _, Tryd.underlying84, rfl, rfl, rfl, rfl, rfl, rfl, rfl, rfl, rfl, rfl⟩

theorem flat_spell {H : Type} {enc : TypeId × Value → H} {w : World} {base : Nat} {sp : Nat → Bool} {held : Bool} (m : Nat) (c : List Value) (y : DataW H × List MemPlace) (h : DataW.trod enc Tryd.prog w base sp held m 109 c = some y) : c = flatS y.1 := by
  obtain ⟨f0, f1, hu, t0, o0, t1, o1⟩ := fields_spell
  obtain ⟨xs, n, _, rfl, hl, hlen, hf⟩ := DataW.trod_struct hu h
  match xs, hlen with
  | [y0, y1], _ =>
    have g0 := hf 0 f0 rfl
    have g1 := hf 1 f1 rfl
    rw [t0, o0, cells_str] at g0
    rw [t1, o1, cells_int] at g1
    have k0 := flat_str (y := y0) g0
    have k1 := flat_int (y := y1) g1
    rw [cells_spell] at hl
    have := split2 hl
    rw [k0, k1] at this
    simpa [flatS] using this
theorem flat_shape {H : Type} {enc : TypeId × Value → H} {w : World} {base : Nat} {sp : Nat → Bool} {held : Bool} (m : Nat) (c : List Value) (y : DataW H × List MemPlace) (h : DataW.trod enc Tryd.prog w base sp held m 84 c = some y) : c = flatS y.1 := by
  obtain ⟨f0, f1, f2, f3, f4, hu, t0, o0, t1, o1, t2, o2, t3, o3, t4, o4⟩ := fields_shape
  obtain ⟨xs, n, _, rfl, hl, hlen, hf⟩ := DataW.trod_struct hu h
  match xs, hlen with
  | [y0, y1, y2, y3, y4], _ =>
    have g0 := hf 0 f0 rfl
    have g1 := hf 1 f1 rfl
    have g2 := hf 2 f2 rfl
    have g3 := hf 3 f3 rfl
    have g4 := hf 4 f4 rfl
    rw [t0, o0, cells_str] at g0
    rw [t1, o1, cells_int] at g1
    rw [t2, o2, cells_int] at g2
    rw [t3, o3, cells_int] at g3
    rw [t4, o4, cells_int] at g4
    have k0 := flat_str (y := y0) g0
    have k1 := flat_int (y := y1) g1
    have k2 := flat_int (y := y2) g2
    have k3 := flat_int (y := y3) g3
    have k4 := flat_int (y := y4) g4
    rw [cells_shape] at hl
    have := split5 hl
    rw [k0, k1, k2, k3, k4] at this
    simpa [flatS] using this

theorem gShp : Tryd.prog.globalNamed "sextant/ltl.shapes" = some 0 := by kernel_rfl
theorem gSgn : Tryd.prog.globalNamed "sextant/ltl.signs" = some 1 := by kernel_rfl
theorem gRes : Tryd.prog.globalNamed "sextant/ltl.reserved" = some 2 := by kernel_rfl
theorem gShpT : (Tryd.prog.globals[0]?).map (·.type) = some 85 := by kernel_rfl
theorem gSgnT : (Tryd.prog.globals[1]?).map (·.type) = some 110 := by kernel_rfl
theorem gResT : (Tryd.prog.globals[2]?).map (·.type) = some 125 := by kernel_rfl

abbrev laid3 : List (String × DataW (TypeId × Value)) := [("sextant/ltl.shapes", Rows.laid_sextant_ltl_shapes), ("sextant/ltl.signs", Rows.laid_sextant_ltl_signs), ("sextant/ltl.reserved", Rows.laid_sextant_ltl_reserved)]

theorem block_of {W : World} {n : String} {g : Nat} {cs : Array Value} (t : TypeId) (hg : Tryd.prog.globalNamed n = some g) (hv : W.var? Tryd.prog n = some cs) (hsh : W.ShapedOpen Tryd.prog) (hlt : g < Tryd.prog.globals.size)
    (h0 : (((begin Tryd.prog (fun _ _ => 0) default).world.heap[g]?).bind Obj.row?).map (·.2) = some t) : W.heap[g]? = some (.cells cs t (0, 0)) := by
  cases hz : ((begin Tryd.prog (fun _ _ => 0) default).world.heap[g]?).bind Obj.row? with
  | none => rw [hz] at h0; cases h0
  | some x =>
    obtain ⟨zero, t'⟩ := x
    rw [hz] at h0
    obtain rfl : t' = t := Option.some.inj h0
    obtain ⟨cs', hh, _, _⟩ := hsh.1 g zero t' hlt hz
    unfold World.var? at hv
    rw [hg] at hv
    simp only [Option.bind_some, hh] at hv
    cases hv
    exact hh
end Go.Proofs.YtidihaecgmbhpabDoor
