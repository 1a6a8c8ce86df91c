/-
  How an argument that is a slice of texts is read.
-/
import Derived.Test.YtmpbganbhoknpaaYGWalk
import Derived.ProofKit
import Derived.OpenShut
import Derived.SizedLaws
import Derived.Deep.Slices
import Derived.Deep.Strs
namespace Go.Proofs.Ytmpbganbhoknpaa
open Go.ChangeShapes Go.WideShapes Go.ChangeAt Go.RowKit Go.Deep

theorem y_laidOutG : laidOutB Try.prog = true := by kernel_rfl
theorem y_cellsStrG : Try.prog.cellsOf 9 = 1 := by kernel_rfl

theorem yg_weights_all {H : Type} {P : Program} {e : TypeId} : ∀ {l : List (DataW H)} {d : DataW H}, d ∈ l → ∀ n ∈ d.weights P e, n ∈ DataW.weightsAll P e l
  | d' :: r, d, hd, n, hn => by
    simp only [DataW.weightsAll, List.mem_append]
    rcases List.mem_cons.1 hd with rfl | h
    · exact Or.inl hn
    · exact Or.inr (yg_weights_all h n hn)

theorem open_txs {H : Type} {enc : TypeId × Value → H} {w : World} {fuel : Nat} {ao : Option Addr} {len cap : Nat} {x : DataW H × List MemPlace}
    (h : DataW.trod enc Try.prog w 0 (fun _ => true) true fuel 39 [.slice ao len cap] = some x) (hw : ∀ k ∈ DataW.weights Try.prog 39 x.1, k ≤ reachBytes) :
    ∃ l : List ByteArray, l.length = len ∧ TxAt w ao l := by
  rcases open_slice1 Try.underlying39 y_cellsStrG h with ⟨hcs, hx⟩ | ⟨a, len', cap', m, n, V, D, Pl, hcs, _, hl, hm, hmm, hx, hel⟩
  · simp at hcs
    obtain ⟨rfl, rfl, rfl⟩ := hcs
    exact ⟨[], rfl, by decide, by simp, .inl rfl⟩
  · simp at hcs
    obtain ⟨rfl, rfl, rfl⟩ := hcs
    simp only [if_true] at hmm
    subst hmm
    have hone : ∀ i, i < len → ∃ s : ByteArray, w.cell? (a.add i) = some (.string s) ∧ s.size ≤ 140737488355328 := by
      intro i hi
      obtain ⟨hc, ht⟩ := hel i (by omega)
      obtain ⟨t, e1, f1, _⟩ := DataW.trod_string Try.underlying9 ht
      simp only [List.cons.injEq, and_true] at e1
      refine ⟨t, by rw [hc, e1], ?_⟩
      have hlen : t.data.toList.length ≤ reachBytes := by
        apply hw
        rw [hx]
        simp only [DataW.weights, Try.underlying39]
        refine List.mem_cons_of_mem _ (List.mem_append_left _ (yg_weights_all (List.mem_map.2 ⟨i, List.mem_range.2 hi, rfl⟩) _ ?_))
        have f2 : D i = .lit (.string t.data.toList) := by
          have := f1
          simp at this
          exact this.1
        rw [f2]
        simp [DataW.weights]
      have hts : t.data.toList.length = t.size := by rw [Array.length_toList]; rfl
      unfold reachBytes at hlen
      omega
    obtain ⟨I, hI⟩ := choose_lt hone
    refine ⟨(List.range len).map I, by simp, ?_, ?_, ?_⟩
    · rw [List.length_map, List.length_range]
      unfold maxLen at hm
      omega
    · intro s hs
      obtain ⟨i, hi, rfl⟩ := List.mem_map.1 hs
      exact (hI i (List.mem_range.1 hi)).2
    · rcases Nat.eq_zero_or_pos len with hz | hp
      · exact .inl (by simp [hz])
      · right
        obtain ⟨b, off, sp⟩ := a
        have h0 := (hI 0 hp).1
        have hsp : sp = none := by simpa [Addr.add] using World.cell?_spot h0
        subst hsp
        refine ⟨b, off, rfl, ?_, fun i hi => ?_⟩
        · have := World.block_lt_of_cell? w _ h0
          simpa [Addr.add] using this
        · have hi' : i < len := by simpa using hi
          have := (hI i hi').1
          rw [add_plain] at this
          rw [this]
          simp

end Go.Proofs.Ytmpbganbhoknpaa
