/-
  How an argument that is a slice of items is read: its cells, item by item.
-/
import Derived.Test.YtfbfdfenfcjolaaItems
import Derived.ProofKit
import Derived.OpenShut
import Derived.SizedLaws
import Derived.Deep.Slices
import Derived.Deep.Strs
namespace Go.Proofs.Ytfbfdfenfcjolaa
open Go.ChangeShapes Go.WideShapes Go.ChangeAt Go.RowKit Go.Deep

theorem Try.laidOut : laidOutB Try.prog = true := by kernel_rfl
theorem Try.cellsPut : Try.prog.cellsOf 31 = 4 := by kernel_rfl
theorem Try.cellsInt : Try.prog.cellsOf 3 = 1 := by kernel_rfl
theorem Try.cellsU64 : Try.prog.cellsOf 29 = 1 := by kernel_rfl
theorem Try.cellsStr : Try.prog.cellsOf 9 = 1 := by kernel_rfl

theorem weights_all {H : Type} {P : Program} {e : TypeId} : ∀ {l : List (DataW H)} {d : DataW H}, d ∈ l → ∀ n ∈ d.weights P e, n ∈ DataW.weightsAll P e l
  | d' :: r, d, hd, n, hn => by
    simp only [DataW.weightsAll, List.mem_append]
    rcases List.mem_cons.1 hd with rfl | h
    · exact Or.inl hn
    · exact Or.inr (weights_all h n hn)

theorem cells4 {w : World} {q : Addr} {cs : List Value} (h : w.cells? 0 q 4 = some cs) : ∃ c0 c1 c2 c3, cs = [c0, c1, c2, c3] ∧ w.cell? q = some c0 ∧ w.cell? (q.add 1) = some c1 ∧ w.cell? (q.add 2) = some c2 ∧ w.cell? (q.add 3) = some c3 := by
  simp only [World.cells?, Nat.zero_le, if_true, show List.range 4 = [0, 1, 2, 3] from rfl, List.mapM_cons, List.mapM_nil, Option.bind_eq_bind, Option.bind_eq_some_iff, Option.pure_def, Option.some.injEq] at h
  obtain ⟨c0, h0, _, ⟨c1, h1, _, ⟨c2, h2, _, ⟨c3, h3, _, rfl, rfl⟩, rfl⟩, rfl⟩, rfl⟩ := h
  refine ⟨c0, c1, c2, c3, rfl, ?_, h1, h2, h3⟩
  simpa [Addr.add] using h0

/-- One item out of its reading. -/
theorem open_put {H : Type} {enc : TypeId × Value → H} {w : World} {n : Nat} {q : Addr} {cs : List Value} {x : DataW H × List MemPlace} (hc : w.cells? 0 q 4 = some cs)
    (h : DataW.trod enc Try.prog w 0 (fun _ => true) true n 31 cs = some x) (hw : ∀ k ∈ DataW.weights Try.prog 31 x.1, k ≤ reachBytes) :
    ∃ y : Item, ItemAt w q.block q.off y ∧ q.spot = none := by
  obtain ⟨c0, c1, c2, c3, rfl, h0, h1, h2, h3⟩ := cells4 hc
  obtain ⟨xs, m, _, hx, _, hl, hf⟩ := DataW.trod_struct Try.underlying31 h
  have hsp : q.spot = none := World.cell?_spot h0
  obtain ⟨qb, qo, qs⟩ := q
  simp only at hsp
  subst hsp
  match xs, hl with
  | [y0, y1, y2, y3], _ =>
    have g0 : DataW.trod enc Try.prog w 0 (fun _ => true) true m 3 [c0] = some y0 := by have := hf 0 _ rfl; simpa [Try.cellsInt] using this
    have g1 : DataW.trod enc Try.prog w 0 (fun _ => true) true m 29 [c1] = some y1 := by have := hf 1 _ rfl; simpa [Try.cellsU64] using this
    have g2 : DataW.trod enc Try.prog w 0 (fun _ => true) true m 3 [c2] = some y2 := by have := hf 2 _ rfl; simpa [Try.cellsInt] using this
    have g3 : DataW.trod enc Try.prog w 0 (fun _ => true) true m 9 [c3] = some y3 := by have := hf 3 _ rfl; simpa [Try.cellsStr] using this
    obtain ⟨k, e0, _, wk⟩ := DataW.trod_int Try.underlying3 g0
    obtain ⟨n, e1, _, wn⟩ := DataW.trod_int Try.underlying29 g1
    obtain ⟨z, e2, _, wz⟩ := DataW.trod_int Try.underlying3 g2
    obtain ⟨t, e3, f3, _⟩ := DataW.trod_string Try.underlying9 g3
    simp only [List.cons.injEq, and_true] at e0 e1 e2 e3
    subst e0 e1 e2 e3
    have bk := bounds_i64 wk
    have bn := bounds_u64 wn
    have bz := bounds_i64 wz
    obtain ⟨n', rfl⟩ := Int.eq_ofNat_of_zero_le bn.1
    have hlen : t.data.toList.length ≤ reachBytes := by
      apply hw
      rw [hx]
      simp [DataW.weights, Try.underlying31, DataW.weightsEach, f3]
    have hts : t.data.toList.length = t.size := by rw [Array.length_toList]; rfl
    unfold reachBytes at hlen
    simp only [add_plain] at h1 h2 h3
    exact ⟨⟨k, n', z, t⟩, ⟨h0, h1, h2, h3, ⟨bk.1, bk.2, (by show (n' : Int) < _; omega), bz.1, bz.2, (by show t.size ≤ _; omega)⟩⟩, rfl⟩

/-- All of them. -/
theorem open_puts {H : Type} {enc : TypeId × Value → H} {w : World} {fuel : Nat} {ao : Option Addr} {len cap : Nat} {x : DataW H × List MemPlace}
    (h : DataW.trod enc Try.prog w 0 (fun _ => true) true fuel 22 [.slice ao len cap] = some x) (hw : ∀ k ∈ DataW.weights Try.prog 22 x.1, k ≤ reachBytes) :
    ∃ I, ItemsAt w w.heap.size ao len I := by
  rcases open_slice Try.underlying22 h with ⟨hcs, hx⟩ | ⟨a, len', cap', m, n, D, Pl, hcs, _, hl, hm, hmm, hx, hel⟩
  · simp at hcs
    obtain ⟨rfl, rfl, rfl⟩ := hcs
    exact ⟨fun _ => default, by decide, .inl rfl⟩
  · simp at hcs
    obtain ⟨rfl, rfl, rfl⟩ := hcs
    simp only [if_true] at hmm
    subst hmm
    rw [Try.cellsPut] at hel
    have hlim : (len : Int) ≤ 140737488351232 := by
      have : ((List.range len).map D).length + ((List.range (m - len)).map fun j => D (len + j)).length ≤ reachBytes := by
        refine Nat.le_trans ?_ (hw _ (by rw [hx]; simp only [DataW.weights, Try.underlying22]; exact List.mem_cons_self))
        rw [show Try.prog.bytesOf 31 = 40 from by kernel_rfl]
        omega
      rw [List.length_map, List.length_map, List.length_range, List.length_range] at this
      unfold reachBytes at this
      omega
    have hone : ∀ i, i < len → ∃ y : Item, ItemAt w (a.add (i * 4)).block (a.add (i * 4)).off y ∧ (a.add (i * 4)).spot = none := by
      intro i hi
      obtain ⟨cs', hc, ht⟩ := hel i (by omega)
      refine open_put hc ht (fun k hk => hw k ?_)
      rw [hx]
      simp only [DataW.weights, Try.underlying22]
      refine List.mem_cons_of_mem _ (List.mem_append_left _ (weights_all (List.mem_map.2 ⟨i, List.mem_range.2 hi, rfl⟩) k hk))
    obtain ⟨I, hI⟩ := choose_lt hone
    refine ⟨I, hlim, ?_⟩
    rcases Nat.eq_zero_or_pos len with hz | hp
    · exact .inl hz
    · right
      obtain ⟨b, off, sp⟩ := a
      have h0 := hI 0 hp
      have hsp : sp = none := by simpa [Addr.add] using h0.2
      subst hsp
      refine ⟨b, off, rfl, ?_, fun i hi => ?_⟩
      · have := World.block_lt_of_cell? w _ h0.1.c0
        simpa [Addr.add] using this
      · have := (hI i hi).1
        rw [add_plain] at this
        exact this

end Go.Proofs.Ytfbfdfenfcjolaa
