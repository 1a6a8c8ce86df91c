/-
  States of graphs, and what is reached in the example's graph: plain data.
-/
import Derived.Test.YtlgljpbbooeanaaNTwo
import Derived.Test.YtlgljpbbooeanaaCodec
namespace Go.Proofs.Ytlgljpbbooeanaa

theorem txt_inj {a b : List UInt8} (h : txt a = txt b) : a = b := by
  have h1 := congrArg (fun x : ByteArray => x.data.toList) h
  simpa [txt] using h1
theorem nst_inj {k m : Nat} (hk : k < 18446744073709551616) (hm : m < 18446744073709551616) (h : nst k = nst m) : k = m :=
  enc_apart k m hk hm (by rw [← txt_inj h, List.take_length])

theorem nodeNo_some {size : Nat} {st : ByteArray} {k : Nat} (h : nodeNo size st = some k) : k < size ∧ nst k = st :=
  ⟨by have := List.mem_of_find?_eq_some h; simpa using this, by have := List.find?_some h; simpa using this⟩
theorem nodeNo_nst {size k : Nat} (hk : k < size) (hs : size ≤ 18446744073709551616) : nodeNo size (nst k) = some k := by
  cases h : nodeNo size (nst k) with
  | none =>
    have := List.find?_eq_none.1 h k (by simpa using hk)
    simp at this
  | some j =>
    obtain ⟨h1, h2⟩ := nodeNo_some h
    rw [nst_inj (by omega) (by omega) h2]
theorem nodeNo_none {size : Nat} {st : ByteArray} (h : ∀ k, k < size → nst k ≠ st) : nodeNo size st = none := by
  cases h' : nodeNo size st with
  | none => rfl
  | some j =>
    obtain ⟨h1, h2⟩ := nodeNo_some h'
    exact absurd h2 (h j h1)

theorem graph_next {ns : List Node} {k : Nat} {x : Node} (hk : ns[k]? = some x) (hs : ns.length ≤ 18446744073709551616) : (graphSem ns).next (nst k) = movsOf x.arcs := by
  have hl : k < ns.length := (List.getElem?_eq_some_iff.1 hk).1
  simp only [graphSem, nodeNo_nst hl hs, Option.bind_some, hk]
theorem graph_look {ns : List Node} {k : Nat} {x : Node} (hk : ns[k]? = some x) (hs : ns.length ≤ 18446744073709551616) : (graphSem ns).look (nst k) = ⟨x.props, x.en, x.pr, x.ac⟩ := by
  have hl : k < ns.length := (List.getElem?_eq_some_iff.1 hk).1
  simp only [graphSem, nodeNo_nst hl hs, Option.bind_some, hk]

theorem nst_zero : nst 0 = ⟨#[0]⟩ := by unfold nst; rw [encU_small (by decide)]; rfl
theorem nst_one : nst 1 = ⟨#[1]⟩ := by unfold nst; rw [encU_small (by decide)]; rfl

theorem two_may : mayN twoNet = true := by decide

theorem two_explored2 : explored (graphSem twoNet) 2 = some (twoNet, [nst 0, nst 1]) := by
  have h01 : nst 0 ≠ nst 1 := fun h => by have := nst_inj (by decide) (by decide) h; omega
  have n0 : (graphSem twoNet).next (nst 0) = [⟨1, 0, -1, -1, nst 1, 0, [], [], 0⟩, ⟨0, 1, -1, -1, ⟨#[]⟩, 1, [], [], 0⟩] := graph_next (x := ⟨[⟨1, 1, 0, [], [], 0⟩, ⟨0, 0, 1, [], [], 0⟩], 5, false, false, false⟩) rfl (by decide)
  have n1 : (graphSem twoNet).next (nst 1) = [] := graph_next (x := ⟨[], 0, true, false, false⟩) rfl (by decide)
  have l0 := graph_look (ns := twoNet) (k := 0) rfl (by decide)
  have l1 := graph_look (ns := twoNet) (k := 1) rfl (by decide)
  have p0 : plc [nst 0] (nst 1) = none := by rw [plc_none]; simpa using fun h => h01 h.symm
  have s0 : oneState (graphSem twoNet) 2 ⟨[], [nst 0], 0⟩ (nst 0) = some ⟨[⟨[⟨1, 1, 0, [], [], 0⟩, ⟨0, 0, 1, [], [], 0⟩], 5, false, false, false⟩], [nst 0, nst 1], 2⟩ := by
    simp [oneState, n0, l0, allMoves, oneMove, p0, arcOf, nodeOf]
  have s1 : oneState (graphSem twoNet) 2 ⟨[⟨[⟨1, 1, 0, [], [], 0⟩, ⟨0, 0, 1, [], [], 0⟩], 5, false, false, false⟩], [nst 0, nst 1], 2⟩ (nst 1) = some ⟨twoNet, [nst 0, nst 1], 2⟩ := by
    unfold oneState
    rw [n1, l1]
    rfl
  have hb : (graphSem twoNet).begin = nst 0 := rfl
  unfold explored
  rw [hb, explore_step (st := nst 0) rfl, s0, Option.bind_some, explore_step (st := nst 1) rfl, s1]
  rfl

theorem two_explored1 : explored (graphSem twoNet) 1 = none := by
  have h01 : nst 0 ≠ nst 1 := fun h => by have := nst_inj (by decide) (by decide) h; omega
  have n0 : (graphSem twoNet).next (nst 0) = [⟨1, 0, -1, -1, nst 1, 0, [], [], 0⟩, ⟨0, 1, -1, -1, ⟨#[]⟩, 1, [], [], 0⟩] := graph_next (x := ⟨[⟨1, 1, 0, [], [], 0⟩, ⟨0, 0, 1, [], [], 0⟩], 5, false, false, false⟩) rfl (by decide)
  have p0 : plc [nst 0] (nst 1) = none := by rw [plc_none]; simpa using fun h => h01 h.symm
  have s0 : oneState (graphSem twoNet) 1 ⟨[], [nst 0], 0⟩ (nst 0) = none := by
    simp [oneState, n0, allMoves, oneMove, p0]
  have hb : (graphSem twoNet).begin = nst 0 := rfl
  unfold explored
  rw [hb, explore_step (st := nst 0) rfl, s0]
  rfl

theorem encU_short (n : Nat) (h : n < 18446744073709551616) : (nst n).size ≤ 10 := by
  have := encU_ten h
  show (encU n).toArray.size ≤ 10
  simpa using this

end Go.Proofs.Ytlgljpbbooeanaa
