/-
  PrKn0.
-/
import Derived.Test.YtmlpndcelfdlhaaM24
import Derived.Test.YtmlpndcelfdlhaaM32
/-
  The example of the law: what is explored of it, plain; and that what comes of a pair's first state is short.
-/
set_option linter.unusedVariables false
set_option linter.unusedSimpArgs false
namespace Go.Proofs.Ytmlpndcelfdlhaa

theorem bytesOf_app (a b : ByteArray) : bytesOf (a ++ b) = bytesOf a ++ bytesOf b := by simp [bytesOf]
theorem bytesOf_nst (q : Nat) : bytesOf (nst q) = encU q := by simp [bytesOf, nst, txt]
theorem size_app (a b : ByteArray) : (a ++ b).size = a.size + b.size := by
  show (a ++ b).data.size = a.data.size + b.data.size
  rw [ByteArray.data_append, Array.size_append]
theorem size_nst (q : Nat) : (nst q).size = (encU q).length := by
  show (nst q).data.size = _
  simp [nst, txt]

theorem apart_nst (q : Nat) (hq : q < 18446744073709551616) (s : ByteArray) : apart (nst q ++ s) = some (q, s) := by
  have h2 : numAt (nst q ++ s) 0 = (q, (encU q).length, 0) := by
    unfold numAt
    rw [List.drop_zero, bytesOf_app, bytesOf_nst, decU_enc q hq]
  unfold apart
  rw [h2]
  simp only [if_true, Option.some.injEq, Prod.mk.injEq, true_and]
  apply ByteArray.ext
  apply Array.toList_inj.1
  rw [ByteArray.data_extract, Array.toList_extract, ByteArray.data_append, Array.toList_append, size_app, size_nst]
  have h3 : (nst q).data.toList = encU q := bytesOf_nst q
  rw [h3, List.extract, List.drop_left]
  apply List.take_of_length_le
  show s.data.toList.length ≤ _
  rw [Array.length_toList]
  show s.size ≤ _
  omega

theorem apartA_nst {A : List ASt} {q : Nat} (hq : q < A.length) (hl : A.length ≤ 4096) (s : ByteArray) : apartA A (nst q ++ s) = some (q, s) := by
  unfold apartA
  rw [apart_nst q (by omega)]
  simp only
  rw [if_pos hq]

theorem tosA_small {A : List ASt} (hl : A.length ≤ 4096) (ht : ∀ a ∈ A, ∀ m ∈ a.mvs, m.to < A.length) (q : Nat) (p : Int) : ∀ t ∈ tosA A q p, ∃ k, k < A.length ∧ t = nst k := by
  intro t h
  unfold tosA at h
  cases hq : A[q]? with
  | none => rw [hq] at h; simp at h
  | some a =>
    rw [hq] at h
    obtain ⟨m, hm, rfl⟩ := List.mem_map.1 h
    exact ⟨m.to, ht a (List.mem_of_getElem? hq) m (List.mem_filter.1 hm).1, rfl⟩

theorem nst_len {k : Nat} (hk : k < 4096) : (nst k).size ≤ 3 := by
  rw [size_nst]
  exact encU_le 2 k (by omega)

/-- What comes of the first state beside an automaton: a number, and a text that is small. -/
theorem rch_pair {M : Sem} {A : List ASt} (h1 : 1 ≤ A.length) (hl : A.length ≤ 4096) (ht : ∀ a ∈ A, ∀ m ∈ a.mvs, m.to < A.length) (hb : M.begin.size ≤ 1000) (hn : ∀ st m, m ∈ M.next st → m.to.size ≤ 1000) :
    ∀ {s : ByteArray}, Rch (prodSem M A) s → s.size ≤ 1003 ∧ ∀ q r, apartA A s = some (q, r) → r.size ≤ 1000 := by
  have ok : ∀ (k : Nat) (r : ByteArray), k < A.length → r.size ≤ 1000 → (nst k ++ r).size ≤ 1003 ∧ ∀ q r', apartA A (nst k ++ r) = some (q, r') → r'.size ≤ 1000 := fun k r hk hr => by
    refine ⟨by rw [size_app]; have := nst_len (k := k) (by omega); omega, fun q r' h => ?_⟩
    rw [apartA_nst hk hl] at h
    cases h
    exact hr
  have hbes : ∀ (tos : List ByteArray) (m m' : Mov), (∀ t ∈ tos, ∃ k, k < A.length ∧ t = nst k) → m' ∈ besideM tos m → m.to.size ≤ 1000 → m'.to.size ≤ 1003 ∧ ∀ q r', apartA A m'.to = some (q, r') → r'.size ≤ 1000 := fun tos m m' htos hm hsz => by
    unfold besideM at hm
    split at hm
    · obtain ⟨t, htt, rfl⟩ := List.mem_map.1 hm
      obtain ⟨k, hk, rfl⟩ := htos t htt
      exact ok k m.to hk hsz
    · rw [List.mem_singleton.1 hm]
      exact ⟨by omega, fun q r' h => Nat.le_trans (apartA_some h).2 hsz⟩
  intro s hs
  induction hs with
  | start => exact ok 0 _ h1 hb
  | step _ hm ih =>
    rename_i s' m _
    simp only [prodSem] at hm
    cases ha : apartA A s' with
    | none => rw [ha] at hm; simp at hm
    | some p =>
      obtain ⟨q, r⟩ := p
      rw [ha] at hm
      simp only at hm
      have htos := tosA_small hl ht q (M.look r).props
      split at hm
      · exact hbes _ _ _ htos hm (ih.2 q r ha)
      · obtain ⟨m0, hm0, hm1⟩ := List.mem_flatMap.1 hm
        exact hbes _ _ _ htos hm1 (hn r m0 hm0)

theorem pair_fine {M : Sem} {A : List ASt} (h1 : 1 ≤ A.length) (hl : A.length ≤ 4096) (ht : ∀ a ∈ A, ∀ m ∈ a.mvs, m.to < A.length) (hb : M.begin.size ≤ 1000) (hn : ∀ st m, m ∈ M.next st → m.to.size ≤ 1000) : (prodSem M A).FineR := by
  refine ⟨?_, fun st m hr hm => ?_⟩
  · have := (rch_pair h1 hl ht hb hn (Rch.start (M := prodSem M A))).1
    exact Nat.le_trans this (by decide)
  · have := (rch_pair h1 hl ht hb hn (Rch.step hr hm)).1
    exact Nat.le_trans this (by decide)
theorem graph_fine1 {ns : List Node} (hm : mayN ns = true) : (graphSem ns).Fine := by
  obtain ⟨h1, h2⟩ := graph_short hm
  exact ⟨Nat.le_trans h1 (by decide), fun st m h => Nat.le_trans (h2 st m h) (by decide)⟩

/-- The two graphs of the example, and what is explored of them beside the automaton. -/
def kn (p : Int) : List Node := [⟨[], p, false, false, false⟩]
def kg1 : List Node := [⟨[⟨-1, 0, 0, [], [], 0⟩], 1, false, false, true⟩]
def kg0 : List Node := [⟨[⟨-1, 1, 0, [], [], 0⟩], 0, false, false, true⟩, ⟨[⟨-1, 1, 0, [], [], 0⟩], 0, false, false, false⟩]

theorem kn_may (p : Int) : mayN (kn p) = true := by
  unfold kn mayN
  rfl
theorem kn_next (p : Int) : (graphSem (kn p)).next (nst 0) = [] := graph_next (x := ⟨[], p, false, false, false⟩) rfl (by show (1 : Nat) ≤ _; decide)
theorem kn_look (p : Int) : (graphSem (kn p)).look (nst 0) = ⟨p, false, false, false⟩ := graph_look (x := ⟨[], p, false, false, false⟩) rfl (by show (1 : Nat) ≤ _; decide)

theorem tos_1 (q : Nat) (hq : q < 2) : tosA often2 q 1 = [nst 0] := by
  have h1 : hasG 1 0 1 = true := by decide
  have h2 : hasG 0 1 1 = false := by decide
  have : q = 0 ∨ q = 1 := by omega
  rcases this with rfl | rfl <;> simp [tosA, often2, h1, h2]
theorem tos_0 (q : Nat) (hq : q < 2) : tosA often2 q 0 = [nst 1] := by
  have h1 : hasG 1 0 0 = false := by decide
  have h2 : hasG 0 1 0 = true := by decide
  have : q = 0 ∨ q = 1 := by omega
  rcases this with rfl | rfl <;> simp [tosA, often2, h1, h2]

theorem kn_step (p : Int) (q : Nat) (hq : q < 2) (k : Nat) (ht : tosA often2 q p = [nst k]) : (prodSem (graphSem (kn p)) often2).next (nst q ++ nst 0) = [⟨-1, -1, -1, -1, nst k ++ nst 0, 0, [], [], 0⟩] ∧ (prodSem (graphSem (kn p)) often2).look (nst q ++ nst 0) = ⟨p, false, false, decide (q = 0)⟩ := by
  have ha : apartA often2 (nst q ++ nst 0) = some (q, nst 0) := apartA_nst hq (by decide) _
  constructor
  · simp only [prodSem, ha, kn_next, kn_look, if_true, ht]
    rfl
  · simp only [prodSem, ha, kn_look]
    have : q = 0 ∨ q = 1 := by omega
    rcases this with rfl | rfl <;> rfl

theorem kn1_explored : explored (prodSem (graphSem (kn 1)) often2) 5 = some (kg1, [nst 0 ++ nst 0]) := by
  obtain ⟨n0, l0⟩ := kn_step 1 0 (by decide) 0 (tos_1 0 (by decide))
  have s0 : oneState (prodSem (graphSem (kn 1)) often2) 5 ⟨[], [nst 0 ++ nst 0], 0⟩ (nst 0 ++ nst 0) = some ⟨kg1, [nst 0 ++ nst 0], 1⟩ := by
    simp [oneState, n0, l0, allMoves, oneMove, plc, arcOf, nodeOf, kg1]
  have hb : (prodSem (graphSem (kn 1)) often2).begin = nst 0 ++ nst 0 := rfl
  unfold explored
  rw [hb, explore_step (st := nst 0 ++ nst 0) rfl, s0, Option.bind_some, explore_end rfl]
  rfl

theorem kn0_explored : explored (prodSem (graphSem (kn 0)) often2) 5 = some (kg0, [nst 0 ++ nst 0, nst 1 ++ nst 0]) := by
  obtain ⟨n0, l0⟩ := kn_step 0 0 (by decide) 1 (tos_0 0 (by decide))
  obtain ⟨n1, l1⟩ := kn_step 0 1 (by decide) 1 (tos_0 1 (by decide))
  have h01 : nst 0 ++ nst 0 ≠ nst 1 ++ nst 0 := fun h => by
    have h1 := apart_nst 0 (by decide) (nst 0)
    rw [h, apart_nst 1 (by decide) (nst 0)] at h1
    cases h1
  have p0 : plc [nst 0 ++ nst 0] (nst 1 ++ nst 0) = none := by rw [plc_none, List.mem_singleton]; exact fun h => h01 h.symm
  have p1 : plc [nst 0 ++ nst 0, nst 1 ++ nst 0] (nst 1 ++ nst 0) = some 1 := by
    unfold plc
    rw [if_neg h01]
    unfold plc
    rw [if_pos rfl]
    rfl
  have s0 : oneState (prodSem (graphSem (kn 0)) often2) 5 ⟨[], [nst 0 ++ nst 0], 0⟩ (nst 0 ++ nst 0) = some ⟨[⟨[⟨-1, 1, 0, [], [], 0⟩], 0, false, false, true⟩], [nst 0 ++ nst 0, nst 1 ++ nst 0], 1⟩ := by
    simp [oneState, n0, l0, allMoves, oneMove, p0, arcOf, nodeOf]
  have s1 : oneState (prodSem (graphSem (kn 0)) often2) 5 ⟨[⟨[⟨-1, 1, 0, [], [], 0⟩], 0, false, false, true⟩], [nst 0 ++ nst 0, nst 1 ++ nst 0], 1⟩ (nst 1 ++ nst 0) = some ⟨kg0, [nst 0 ++ nst 0, nst 1 ++ nst 0], 2⟩ := by
    simp [oneState, n1, l1, allMoves, oneMove, p1, arcOf, nodeOf, kg0]
  have hb : (prodSem (graphSem (kn 0)) often2).begin = nst 0 ++ nst 0 := rfl
  unfold explored
  rw [hb, explore_step (st := nst 0 ++ nst 0) rfl, s0, Option.bind_some, explore_step (st := nst 1 ++ nst 0) rfl, s1, Option.bind_some, explore_end rfl]
  rfl

theorem kg1_cycle : cycleN kg1 = true := by decide
theorem kg0_cycle : cycleN kg0 = false := by decide
theorem toes_kg1 : Toes kg1 := by
  intro k x hx a ha _
  have hl := (List.getElem?_eq_some_iff.1 hx).1
  have : k = 0 := by simp [kg1] at hl; omega
  subst this
  cases hx
  rw [List.mem_singleton.1 ha]
  exact ⟨0, rfl, by decide⟩
theorem toes_kg0 : Toes kg0 := by
  intro k x hx a ha _
  have hl := (List.getElem?_eq_some_iff.1 hx).1
  have : k = 0 ∨ k = 1 := by simp [kg0] at hl; omega
  rcases this with rfl | rfl <;> cases hx <;> (rw [List.mem_singleton.1 ha]; exact ⟨1, rfl, by decide⟩)
theorem begin_kn (p : Int) : (prodSem (graphSem (kn p)) often2).begin = ⟨#[0, 0]⟩ := by
  show nst 0 ++ nst 0 = _
  rw [nst_zero]
  rfl

end Go.Proofs.Ytmlpndcelfdlhaa
