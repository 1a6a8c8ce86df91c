/-
  GOpen.
-/
import Derived.Test.YtkjalclplfdpmaaM15
import Derived.Test.YtkjalclplfdpmaaM37
/-
  How an argument that is a graph is read, with what memory can hold of it.
-/
namespace Go.Proofs.Ytkjalclplfdpmaa
open Go.ChangeShapes Go.WideShapes Go.ChangeAt Go.RowKit Go.Deep

theorem open_arcsF {H : Type} {enc : TypeId × Value → H} {w : World} {fuel : Nat} {c0 : Value} {x : DataW H × List MemPlace} (h : DataW.trod enc Try.prog w 0 (fun _ => true) true fuel 46 [c0] = some x) (hw : ∀ n ∈ x.1.weights Try.prog 46, n ≤ reachBytes) : ∃ l, ArcsV w w.heap.size c0 l ∧ l.length * 80 ≤ 140737488351232 := by
  obtain ⟨ao, cap, l, rfl, hby, hl, hr⟩ := open_row (α := Arc) (fun b o z => ArcAt w w.heap.size b o z) Try.underlying46 n_cellsArc h hw (fun n q cs y hc ht hwy => by
    obtain ⟨_, hlen, hcell⟩ := World.cells?_some hc
    match cs, hlen with
    | [c0, c1, c2, c3, c4, c5], _ =>
      have h0 := hcell 0 (by decide)
      have h1 := hcell 1 (by decide)
      have h2 := hcell 2 (by decide)
      have h3 := hcell 3 (by decide)
      have h4 := hcell 4 (by decide)
      have h5 := hcell 5 (by decide)
      have hq0 : q.add 0 = q := by simp [Addr.add]
      rw [hq0] at h0
      have hsp : q.spot = none := World.cell?_spot h0
      obtain ⟨qb, qo, qs⟩ := q
      simp only at hsp
      subst hsp
      simp only [add_plain] at h1 h2 h3 h4 h5
      obtain ⟨xs, m, _, hxs, _, hl, hf⟩ := DataW.trod_struct Try.underlying51 ht
      rw [hxs] at hwy
      have HW : Hid (∀ (i : Nat) (f : Field) (y : DataW H × List MemPlace), _ → xs[i]? = some y → ∀ n ∈ y.1.weights Try.prog f.type, n ≤ reachBytes) := fun i f y hf hy => w_field Try.underlying51 hwy (i := i) (f := f) (y := y) hf hy
      clear hwy hxs
      match xs, hl with
      | [y0, y1, y2, y3, y4, y5], _ =>
        have g0 : DataW.trod enc Try.prog w 0 (fun _ => true) true m 3 [c0] = some y0 := by have := hf 0 _ rfl; simpa [n_cellsInt] using this
        have g1 : DataW.trod enc Try.prog w 0 (fun _ => true) true m 3 [c1] = some y1 := by have := hf 1 _ rfl; simpa [n_cellsInt] using this
        have g2 : DataW.trod enc Try.prog w 0 (fun _ => true) true m 3 [c2] = some y2 := by have := hf 2 _ rfl; simpa [n_cellsInt] using this
        have g3 : DataW.trod enc Try.prog w 0 (fun _ => true) true m 44 [c3] = some y3 := by have := hf 3 _ rfl; simpa [n_cellsInts] using this
        have g4 : DataW.trod enc Try.prog w 0 (fun _ => true) true m 44 [c4] = some y4 := by have := hf 4 _ rfl; simpa [n_cellsInts] using this
        have g5 : DataW.trod enc Try.prog w 0 (fun _ => true) true m 38 [c5] = some y5 := by have := hf 5 _ rfl; simpa [n_cellsU64] using this
        obtain ⟨k0, e0, _, _⟩ := DataW.trod_int Try.underlying3 g0
        obtain ⟨k1, e1, _, _⟩ := DataW.trod_int Try.underlying3 g1
        obtain ⟨k2, e2, _, _⟩ := DataW.trod_int Try.underlying3 g2
        obtain ⟨l3, i3⟩ := open_ints g3 (HW.out 3 _ _ rfl rfl)
        obtain ⟨l4, i4⟩ := open_ints g4 (HW.out 4 _ _ rfl rfl)
        obtain ⟨k5, e5, _, _⟩ := DataW.trod_int Try.underlying38 g5
        simp only [List.cons.injEq, and_true] at e0 e1 e2 e5
        subst e0 e1 e2 e5
        exact ⟨⟨k0, k1, k2, l3, l4, k5⟩, ⟨h0, h1, h2, ⟨c3, h3, i3⟩, ⟨c4, h4, i4⟩, h5⟩, rfl, World.block_lt_of_cell? w _ h0⟩)
  rw [n_byArc] at hby
  unfold reachBytes at hby
  exact ⟨l, ⟨ao, cap, rfl, by omega, hr⟩, by omega⟩

theorem open_nodesF {H : Type} {enc : TypeId × Value → H} {w : World} {fuel : Nat} {c0 : Value} {x : DataW H × List MemPlace} (h : DataW.trod enc Try.prog w 0 (fun _ => true) true fuel 22 [c0] = some x) (hw : ∀ n ∈ x.1.weights Try.prog 22, n ≤ reachBytes) : ∃ ao cap l, c0 = .slice ao (List.length (α := Node) l) cap ∧ NodesAt w w.heap.size ao l ∧ FitN l := by
  obtain ⟨ao, cap, l, rfl, hby, hl, hr⟩ := open_row (α := Node) (fun b o z => NodeAt w w.heap.size b o z ∧ z.arcs.length * 80 ≤ 140737488351232) Try.underlying22 n_cellsNode h hw (fun n q cs y hc ht hwy => by
    obtain ⟨_, hlen, hcell⟩ := World.cells?_some hc
    match cs, hlen with
    | [c0, c1, c2, c3, c4], _ =>
      have h0 := hcell 0 (by decide)
      have h1 := hcell 1 (by decide)
      have h2 := hcell 2 (by decide)
      have h3 := hcell 3 (by decide)
      have h4 := hcell 4 (by decide)
      have hq0 : q.add 0 = q := by simp [Addr.add]
      rw [hq0] at h0
      have hsp : q.spot = none := World.cell?_spot h0
      obtain ⟨qb, qo, qs⟩ := q
      simp only at hsp
      subst hsp
      simp only [add_plain] at h1 h2 h3 h4
      obtain ⟨xs, m, _, hxs, _, hl, hf⟩ := DataW.trod_struct Try.underlying48 ht
      rw [hxs] at hwy
      have HW : Hid (∀ (i : Nat) (f : Field) (y : DataW H × List MemPlace), _ → xs[i]? = some y → ∀ n ∈ y.1.weights Try.prog f.type, n ≤ reachBytes) := fun i f y hf hy => w_field Try.underlying48 hwy (i := i) (f := f) (y := y) hf hy
      clear hwy hxs
      match xs, hl with
      | [y0, y1, y2, y3, y4], _ =>
        have g0 : DataW.trod enc Try.prog w 0 (fun _ => true) true m 46 [c0] = some y0 := by have := hf 0 _ rfl; simpa [n_cellsArcs] using this
        have g1 : DataW.trod enc Try.prog w 0 (fun _ => true) true m 38 [c1] = some y1 := by have := hf 1 _ rfl; simpa [n_cellsU64] using this
        have g2 : DataW.trod enc Try.prog w 0 (fun _ => true) true m 4 [c2] = some y2 := by have := hf 2 _ rfl; simpa [n_cellsBool] using this
        have g3 : DataW.trod enc Try.prog w 0 (fun _ => true) true m 4 [c3] = some y3 := by have := hf 3 _ rfl; simpa [n_cellsBool] using this
        have g4 : DataW.trod enc Try.prog w 0 (fun _ => true) true m 4 [c4] = some y4 := by have := hf 4 _ rfl; simpa [n_cellsBool] using this
        obtain ⟨l0, i0, hl0⟩ := open_arcsF g0 (HW.out 0 _ _ rfl rfl)
        obtain ⟨k1, e1, _, _⟩ := DataW.trod_int Try.underlying38 g1
        obtain ⟨k2, e2, _⟩ := DataW.trod_bool Try.underlying4 g2
        obtain ⟨k3, e3, _⟩ := DataW.trod_bool Try.underlying4 g3
        obtain ⟨k4, e4, _⟩ := DataW.trod_bool Try.underlying4 g4
        simp only [List.cons.injEq, and_true] at e1 e2 e3 e4
        subst e1 e2 e3 e4
        exact ⟨⟨l0, k1, k2, k3, k4⟩, ⟨⟨⟨c0, h0, i0⟩, h1, h2, h3, h4⟩, hl0⟩, rfl, World.block_lt_of_cell? w _ h0⟩)
  rw [n_byNode] at hby
  unfold reachBytes at hby
  refine ⟨ao, cap, l, rfl, ⟨by omega, hr.imp id fun ⟨b, off, h1, h2, h3⟩ => ⟨b, off, h1, h2, fun i hi => (h3 i hi).1⟩⟩, by omega, fun x hx => ?_⟩
  rcases hr with h0 | ⟨b, off, h1, h2, h3⟩
  · rw [List.length_eq_zero_iff.1 h0] at hx; simp at hx
  · obtain ⟨i, hi, rfl⟩ := List.getElem_of_mem hx
    exact (h3 i hi).2

/-- A graph. -/
theorem open_netF {H : Type} {enc : TypeId × Value → H} {w : World} {fuel : Nat} {c0 : Value} {x : DataW H × List MemPlace} (h : DataW.trod enc Try.prog w 0 (fun _ => true) true fuel 24 [c0] = some x) (hw : ∀ n ∈ x.1.weights Try.prog 24, n ≤ reachBytes) : ∃ ao cap l, c0 = .slice ao (List.length (α := Node) l) cap ∧ NodesAt w w.heap.size ao l ∧ FitN l := by
  obtain ⟨xs, m, _, hxs, _, hl, hf⟩ := DataW.trod_struct Try.underlying24 h
  rw [hxs] at hw
  have HW : Hid (∀ (i : Nat) (f : Field) (y : DataW H × List MemPlace), _ → xs[i]? = some y → ∀ n ∈ y.1.weights Try.prog f.type, n ≤ reachBytes) := fun i f y hf hy => w_field Try.underlying24 hw (i := i) (f := f) (y := y) hf hy
  clear hw hxs
  match xs, hl with
  | [y0], _ =>
    have g0 : DataW.trod enc Try.prog w 0 (fun _ => true) true m 22 [c0] = some y0 := by have := hf 0 _ rfl; simpa [n_cellsNodes] using this
    exact open_nodesF g0 (HW.out 0 _ _ rfl rfl)

end Go.Proofs.Ytkjalclplfdpmaa
