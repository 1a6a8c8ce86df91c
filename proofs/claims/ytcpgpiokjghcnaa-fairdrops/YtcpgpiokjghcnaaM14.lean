/-
  NOpen.
-/
import Derived.Deep.Slices
import Derived.Deep.Strs
import Derived.OpenShut
import Derived.ProofKit
import Derived.SizedLaws
import Derived.Test.YtcpgpiokjghcnaaM8
/-
  How arguments that are graphs are read.
-/
namespace Go.Proofs.Ytcpgpiokjghcnaa
open Go.ChangeShapes Go.WideShapes Go.ChangeAt Go.RowKit Go.Deep

theorem n_laidOut : laidOutB Try.prog = true := by kernel_rfl
theorem n_cellsInt : Try.prog.cellsOf 3 = 1 := by kernel_rfl
theorem n_cellsBool : Try.prog.cellsOf 4 = 1 := by kernel_rfl
theorem n_cellsU64 : Try.prog.cellsOf 39 = 1 := by kernel_rfl
theorem n_cellsInts : Try.prog.cellsOf 25 = 1 := by kernel_rfl
theorem n_cellsArcs : Try.prog.cellsOf 63 = 1 := by kernel_rfl
theorem n_cellsNodes : Try.prog.cellsOf 22 = 1 := by kernel_rfl
theorem n_cellsArc : Try.prog.cellsOf 69 = 6 := by kernel_rfl
theorem n_cellsNode : Try.prog.cellsOf 65 = 5 := by kernel_rfl
theorem n_cellsNet : Try.prog.cellsOf 24 = 1 := by kernel_rfl
theorem n_arr1 {α : Type} {cs : Array α} (h : cs.size = 1) : ∃ c0, cs = #[c0] := by
  obtain ⟨l⟩ := cs
  match l, h with
  | [c0], _ => exact ⟨c0, rfl⟩

theorem w_all {H : Type} {e : TypeId} {d : DataW H} {n : Nat} : ∀ {l : List (DataW H)}, d ∈ l → n ∈ d.weights Try.prog e → n ∈ DataW.weightsAll Try.prog e l
  | [], h, _ => absurd h (by simp)
  | x :: r, h, hn => by
    simp only [DataW.weightsAll, List.mem_append]
    rcases List.mem_cons.1 h with rfl | h
    · exact .inl hn
    · exact .inr (w_all h hn)
theorem w_field {H : Type} {t : TypeId} {fs : Array Field} (ht : Try.prog.underlying t = some (.struct fs)) {xs : List (DataW H × List MemPlace)} (hw : ∀ n ∈ (DataW.agg (xs.map (·.1))).weights Try.prog t, n ≤ reachBytes) {i : Nat} {f : Field} {y : DataW H × List MemPlace} (hf : fs[i]? = some f) (hy : xs[i]? = some y) :
    ∀ n ∈ y.1.weights Try.prog f.type, n ≤ reachBytes := fun n hn => by
  refine hw n ?_
  simp only [DataW.weights, ht]
  exact DataW.weights_mem_each (j := i) (t := f.type) (d := y.1) (by rw [List.getElem?_map, Array.getElem?_toList, hf]; rfl) (by rw [List.getElem?_map, hy]; rfl) n hn

/-- A slice, element by element. -/
theorem open_row {α : Type} [Inhabited α] {H : Type} {enc : TypeId × Value → H} {w : World} {fuel : Nat} {c0 : Value} {x : DataW H × List MemPlace} {t e : TypeId} {size : Nat} (Q : Nat → Nat → α → Prop) (ht : Try.prog.underlying t = some (.slice e)) (hsz : Try.prog.cellsOf e = size)
    (h : DataW.trod enc Try.prog w 0 (fun _ => true) true fuel t [c0] = some x) (hw : ∀ n ∈ x.1.weights Try.prog t, n ≤ reachBytes)
    (hone : ∀ (n : Nat) (q : Addr) (cs : List Value) (y : DataW H × List MemPlace), w.cells? 0 q size = some cs → DataW.trod enc Try.prog w 0 (fun _ => true) true n e cs = some y → (∀ n ∈ y.1.weights Try.prog e, n ≤ reachBytes) → ∃ z : α, Q q.block q.off z ∧ q.spot = none ∧ q.block < w.heap.size) :
    ∃ ao cap, ∃ l : List α, c0 = .slice ao l.length cap ∧ l.length * Try.prog.bytesOf e ≤ reachBytes ∧ (l.length : Int) ≤ 9223372036854775807 ∧ (l.length = 0 ∨ ∃ b off, ao = some ⟨b, off, none⟩ ∧ b < w.heap.size ∧ ∀ i (hi : i < l.length), Q b (off + i * size) l[i]) := by
  rcases open_slice ht h with ⟨hcs, hx⟩ | ⟨a, len, cap, m, n, D, Pl, hcs, _, hl, hm, hmm, hx, hel⟩
  · simp only [List.cons.injEq, and_true] at hcs
    exact ⟨none, 0, [], hcs, by simp, (show (0 : Int) ≤ 9223372036854775807 by decide), .inl rfl⟩
  · simp only [List.cons.injEq, and_true] at hcs
    simp only [if_true] at hmm
    subst hmm
    rw [hsz] at hel
    have hw0 := hw
    rw [hx] at hw0
    simp only [DataW.weights, ht] at hw0
    have hel' : ∀ i, i < len → ∃ y : α, Q (a.add (i * size)).block (a.add (i * size)).off y ∧ (a.add (i * size)).spot = none ∧ (a.add (i * size)).block < w.heap.size := by
      intro i hi
      obtain ⟨cs', hc, ht'⟩ := hel i (by omega)
      refine hone _ _ _ _ hc ht' (fun k hk => hw0 k ?_)
      simp only [List.mem_cons, List.mem_append]
      exact .inr (.inl (w_all (List.mem_map.2 ⟨i, by simpa using hi, rfl⟩) hk))
    obtain ⟨I, hI⟩ := choose_lt hel'
    refine ⟨some a, m, (List.range len).map I, by rw [hcs]; simp, ?_, by simp only [List.length_map, List.length_range]; unfold maxLen at hm; omega, ?_⟩
    · have h1 := hw0 _ (List.mem_cons_self ..)
      simp only [List.length_map, List.length_range] at h1 ⊢
      exact Nat.le_trans (Nat.mul_le_mul_right _ (Nat.le_add_right _ _)) h1
    rcases Nat.eq_zero_or_pos len with hz | hp
    · exact .inl (by simpa using hz)
    · right
      obtain ⟨b, off, sp⟩ := a
      have h0 := hI 0 hp
      have hsp : sp = none := by simpa [Addr.add] using h0.2.1
      subst hsp
      refine ⟨b, off, rfl, ?_, fun i hi => ?_⟩
      · simpa [Addr.add] using h0.2.2
      · have hi' : i < len := by simpa using hi
        have := (hI i hi').1
        rw [add_plain] at this
        simpa using this

theorem n_byInt : Try.prog.bytesOf 3 = 8 := by kernel_rfl
theorem n_byArc : Try.prog.bytesOf 69 = 80 := by kernel_rfl
theorem n_byNode : Try.prog.bytesOf 65 = 40 := by kernel_rfl

theorem open_ints {H : Type} {enc : TypeId × Value → H} {w : World} {fuel : Nat} {c0 : Value} {x : DataW H × List MemPlace} (h : DataW.trod enc Try.prog w 0 (fun _ => true) true fuel 25 [c0] = some x) (hw : ∀ n ∈ x.1.weights Try.prog 25, n ≤ reachBytes) : ∃ l, IntsV w w.heap.size c0 l := by
  obtain ⟨ao, cap, l, rfl, hby, hl, hr⟩ := open_row (α := Int) (fun b o z => w.cell? ⟨b, o, none⟩ = some (.int .i64 z)) Try.underlying25 n_cellsInt h hw (fun n q cs y hc ht _ => by
    obtain ⟨_, hlen, hcell⟩ := World.cells?_some hc
    match cs, hlen with
    | [c], _ =>
      obtain ⟨k, e0, _, _⟩ := DataW.trod_int Try.underlying3 ht
      simp only [List.cons.injEq, and_true] at e0
      subst e0
      have h0 := hcell 0 (by decide)
      have hq0 : q.add 0 = q := by simp [Addr.add]
      rw [hq0] at h0
      have hsp : q.spot = none := World.cell?_spot h0
      obtain ⟨qb, qo, qs⟩ := q
      simp only at hsp
      subst hsp
      exact ⟨k, h0, rfl, World.block_lt_of_cell? w _ h0⟩)
  rw [n_byInt] at hby
  unfold reachBytes at hby
  exact ⟨l, ao, cap, rfl, by omega, hr.imp id fun ⟨b, off, h1, h2, h3⟩ => ⟨b, off, h1, h2, fun i hi => by have := h3 i hi; rwa [Nat.mul_one] at this⟩⟩

instance : Inhabited Arc := ⟨⟨0, 0, 0, [], [], 0⟩⟩
instance : Inhabited Node := ⟨⟨[], 0, false, false, false⟩⟩

theorem open_arcs {H : Type} {enc : TypeId × Value → H} {w : World} {fuel : Nat} {c0 : Value} {x : DataW H × List MemPlace} (h : DataW.trod enc Try.prog w 0 (fun _ => true) true fuel 63 [c0] = some x) (hw : ∀ n ∈ x.1.weights Try.prog 63, n ≤ reachBytes) : ∃ l, ArcsV w w.heap.size c0 l := by
  obtain ⟨ao, cap, l, rfl, hby, hl, hr⟩ := open_row (α := Arc) (fun b o z => ArcAt w w.heap.size b o z) Try.underlying63 n_cellsArc h hw (fun n q cs y hc ht hwy => by
    obtain ⟨_, hlen, hcell⟩ := World.cells?_some hc
    match cs, hlen with
    | [c0, c1, c2, c3, c4, c5], _ =>
      have h0 := hcell 0 (by decide)
      have h1 := hcell 1 (by decide)
      have h2 := hcell 2 (by decide)
      have h3 := hcell 3 (by decide)
      have h4 := hcell 4 (by decide)
      have h5 := hcell 5 (by decide)
      have hq0 : q.add 0 = q := by simp [Addr.add]
      rw [hq0] at h0
      have hsp : q.spot = none := World.cell?_spot h0
      obtain ⟨qb, qo, qs⟩ := q
      simp only at hsp
      subst hsp
      simp only [add_plain] at h1 h2 h3 h4 h5
      obtain ⟨xs, m, _, hxs, _, hl, hf⟩ := DataW.trod_struct Try.underlying69 ht
      rw [hxs] at hwy
      have HW : Hid (∀ (i : Nat) (f : Field) (y : DataW H × List MemPlace), _ → xs[i]? = some y → ∀ n ∈ y.1.weights Try.prog f.type, n ≤ reachBytes) := fun i f y hf hy => w_field Try.underlying69 hwy (i := i) (f := f) (y := y) hf hy
      clear hwy hxs
      match xs, hl with
      | [y0, y1, y2, y3, y4, y5], _ =>
        have g0 : DataW.trod enc Try.prog w 0 (fun _ => true) true m 3 [c0] = some y0 := by have := hf 0 _ rfl; simpa [n_cellsInt] using this
        have g1 : DataW.trod enc Try.prog w 0 (fun _ => true) true m 3 [c1] = some y1 := by have := hf 1 _ rfl; simpa [n_cellsInt] using this
        have g2 : DataW.trod enc Try.prog w 0 (fun _ => true) true m 3 [c2] = some y2 := by have := hf 2 _ rfl; simpa [n_cellsInt] using this
        have g3 : DataW.trod enc Try.prog w 0 (fun _ => true) true m 25 [c3] = some y3 := by have := hf 3 _ rfl; simpa [n_cellsInts] using this
        have g4 : DataW.trod enc Try.prog w 0 (fun _ => true) true m 25 [c4] = some y4 := by have := hf 4 _ rfl; simpa [n_cellsInts] using this
        have g5 : DataW.trod enc Try.prog w 0 (fun _ => true) true m 39 [c5] = some y5 := by have := hf 5 _ rfl; simpa [n_cellsU64] using this
        obtain ⟨k0, e0, _, _⟩ := DataW.trod_int Try.underlying3 g0
        obtain ⟨k1, e1, _, _⟩ := DataW.trod_int Try.underlying3 g1
        obtain ⟨k2, e2, _, _⟩ := DataW.trod_int Try.underlying3 g2
        obtain ⟨l3, i3⟩ := open_ints g3 (HW.out 3 _ _ rfl rfl)
        obtain ⟨l4, i4⟩ := open_ints g4 (HW.out 4 _ _ rfl rfl)
        obtain ⟨k5, e5, _, _⟩ := DataW.trod_int Try.underlying39 g5
        simp only [List.cons.injEq, and_true] at e0 e1 e2 e5
        subst e0 e1 e2 e5
        exact ⟨⟨k0, k1, k2, l3, l4, k5⟩, ⟨h0, h1, h2, ⟨c3, h3, i3⟩, ⟨c4, h4, i4⟩, h5⟩, rfl, World.block_lt_of_cell? w _ h0⟩)
  rw [n_byArc] at hby
  unfold reachBytes at hby
  exact ⟨l, ao, cap, rfl, by omega, hr⟩

theorem open_nodes {H : Type} {enc : TypeId × Value → H} {w : World} {fuel : Nat} {c0 : Value} {x : DataW H × List MemPlace} (h : DataW.trod enc Try.prog w 0 (fun _ => true) true fuel 22 [c0] = some x) (hw : ∀ n ∈ x.1.weights Try.prog 22, n ≤ reachBytes) : ∃ ao cap l, c0 = .slice ao (List.length (α := Node) l) cap ∧ NodesAt w w.heap.size ao l := by
  obtain ⟨ao, cap, l, rfl, hby, hl, hr⟩ := open_row (α := Node) (fun b o z => NodeAt w w.heap.size b o z) Try.underlying22 n_cellsNode h hw (fun n q cs y hc ht hwy => by
    obtain ⟨_, hlen, hcell⟩ := World.cells?_some hc
    match cs, hlen with
    | [c0, c1, c2, c3, c4], _ =>
      have h0 := hcell 0 (by decide)
      have h1 := hcell 1 (by decide)
      have h2 := hcell 2 (by decide)
      have h3 := hcell 3 (by decide)
      have h4 := hcell 4 (by decide)
      have hq0 : q.add 0 = q := by simp [Addr.add]
      rw [hq0] at h0
      have hsp : q.spot = none := World.cell?_spot h0
      obtain ⟨qb, qo, qs⟩ := q
      simp only at hsp
      subst hsp
      simp only [add_plain] at h1 h2 h3 h4
      obtain ⟨xs, m, _, hxs, _, hl, hf⟩ := DataW.trod_struct Try.underlying65 ht
      rw [hxs] at hwy
      have HW : Hid (∀ (i : Nat) (f : Field) (y : DataW H × List MemPlace), _ → xs[i]? = some y → ∀ n ∈ y.1.weights Try.prog f.type, n ≤ reachBytes) := fun i f y hf hy => w_field Try.underlying65 hwy (i := i) (f := f) (y := y) hf hy
      clear hwy hxs
      match xs, hl with
      | [y0, y1, y2, y3, y4], _ =>
        have g0 : DataW.trod enc Try.prog w 0 (fun _ => true) true m 63 [c0] = some y0 := by have := hf 0 _ rfl; simpa [n_cellsArcs] using this
        have g1 : DataW.trod enc Try.prog w 0 (fun _ => true) true m 39 [c1] = some y1 := by have := hf 1 _ rfl; simpa [n_cellsU64] using this
        have g2 : DataW.trod enc Try.prog w 0 (fun _ => true) true m 4 [c2] = some y2 := by have := hf 2 _ rfl; simpa [n_cellsBool] using this
        have g3 : DataW.trod enc Try.prog w 0 (fun _ => true) true m 4 [c3] = some y3 := by have := hf 3 _ rfl; simpa [n_cellsBool] using this
        have g4 : DataW.trod enc Try.prog w 0 (fun _ => true) true m 4 [c4] = some y4 := by have := hf 4 _ rfl; simpa [n_cellsBool] using this
        obtain ⟨l0, i0⟩ := open_arcs g0 (HW.out 0 _ _ rfl rfl)
        obtain ⟨k1, e1, _, _⟩ := DataW.trod_int Try.underlying39 g1
        obtain ⟨k2, e2, _⟩ := DataW.trod_bool Try.underlying4 g2
        obtain ⟨k3, e3, _⟩ := DataW.trod_bool Try.underlying4 g3
        obtain ⟨k4, e4, _⟩ := DataW.trod_bool Try.underlying4 g4
        simp only [List.cons.injEq, and_true] at e1 e2 e3 e4
        subst e1 e2 e3 e4
        exact ⟨⟨l0, k1, k2, k3, k4⟩, ⟨⟨c0, h0, i0⟩, h1, h2, h3, h4⟩, rfl, World.block_lt_of_cell? w _ h0⟩)
  rw [n_byNode] at hby
  unfold reachBytes at hby
  exact ⟨ao, cap, l, rfl, by omega, hr⟩

/-- A graph. -/
theorem open_net {H : Type} {enc : TypeId × Value → H} {w : World} {fuel : Nat} {c0 : Value} {x : DataW H × List MemPlace} (h : DataW.trod enc Try.prog w 0 (fun _ => true) true fuel 24 [c0] = some x) (hw : ∀ n ∈ x.1.weights Try.prog 24, n ≤ reachBytes) : ∃ ao cap l, c0 = .slice ao (List.length (α := Node) l) cap ∧ NodesAt w w.heap.size ao l := by
  obtain ⟨xs, m, _, hxs, _, hl, hf⟩ := DataW.trod_struct Try.underlying24 h
  rw [hxs] at hw
  have HW : Hid (∀ (i : Nat) (f : Field) (y : DataW H × List MemPlace), _ → xs[i]? = some y → ∀ n ∈ y.1.weights Try.prog f.type, n ≤ reachBytes) := fun i f y hf hy => w_field Try.underlying24 hw (i := i) (f := f) (y := y) hf hy
  clear hw hxs
  match xs, hl with
  | [y0], _ =>
    have g0 : DataW.trod enc Try.prog w 0 (fun _ => true) true m 22 [c0] = some y0 := by have := hf 0 _ rfl; simpa [n_cellsNodes] using this
    exact open_nodes g0 (HW.out 0 _ _ rfl rfl)

end Go.Proofs.Ytcpgpiokjghcnaa
