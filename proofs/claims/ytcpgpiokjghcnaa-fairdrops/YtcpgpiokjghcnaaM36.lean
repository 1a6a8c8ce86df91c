/-
  FaKn0, FaOne, FaKn, FaMove, FaWalk0.
-/
import Derived.Test.YtcpgpiokjghcnaaM13
import Derived.Test.YtcpgpiokjghcnaaM25
import Derived.Test.YtcpgpiokjghcnaaM27
import Derived.Test.YtcpgpiokjghcnaaM32
import Derived.Test.YtcpgpiokjghcnaaM35
/-
  The example of the law, plain: what is explored of it; what comes of a copy's first state is short.
-/
set_option linter.unusedVariables false
set_option linter.unusedSimpArgs false
namespace Go.Proofs.Ytcpgpiokjghcnaa

theorem bytesOf_app (a b : ByteArray) : bytesOf (a ++ b) = bytesOf a ++ bytesOf b := by simp [bytesOf]
theorem bytesOf_nst (q : Nat) : bytesOf (nst q) = encU q := by simp [bytesOf, nst, txt]
theorem size_app (a b : ByteArray) : (a ++ b).size = a.size + b.size := by
  show (a ++ b).data.size = a.data.size + b.data.size
  rw [ByteArray.data_append, Array.size_append]
theorem size_nst (q : Nat) : (nst q).size = (encU q).length := by
  show (nst q).data.size = _
  simp [nst, txt]

theorem apart_nst (q : Nat) (hq : q < 18446744073709551616) (s : ByteArray) : apart (nst q ++ s) = some (q, s) := by
  have h2 : numAt (nst q ++ s) 0 = (q, (encU q).length, 0) := by
    unfold numAt
    rw [List.drop_zero, bytesOf_app, bytesOf_nst, decU_enc q hq]
  unfold apart
  rw [h2]
  simp only [if_true, Option.some.injEq, Prod.mk.injEq, true_and]
  apply ByteArray.ext
  apply Array.toList_inj.1
  rw [ByteArray.data_extract, Array.toList_extract, ByteArray.data_append, Array.toList_append, size_app, size_nst]
  have h3 : (nst q).data.toList = encU q := bytesOf_nst q
  rw [h3, List.extract, List.drop_left]
  apply List.take_of_length_le
  show s.data.toList.length ≤ _
  rw [Array.length_toList]
  show s.size ≤ _
  omega

theorem may_to {ns : List Node} (hm : mayN ns = true) : 1 ≤ ns.length ∧ ns.length ≤ 20000 ∧ arcsIn ns ≤ 262144 ∧ ∀ (k : Nat) (x : Node) (a : Arc), ns[k]? = some x → a ∈ x.arcs → a.bad = 0 → a.to.toNat < ns.length := by
  simp only [mayN, Bool.and_eq_true, decide_eq_true_eq, List.all_eq_true] at hm
  refine ⟨hm.1.1.1, hm.1.1.2, hm.1.2, fun k x a hx ha hb => ?_⟩
  have := hm.2 x (List.mem_of_getElem? hx) a ha
  unfold arcB at this
  simp only [Bool.and_eq_true, decide_eq_true_eq] at this
  obtain ⟨⟨⟨_, h7⟩, h8⟩, _⟩ := this
  omega

theorem graph_short {ns : List Node} (hm : mayN ns = true) : (graphSem ns).begin.size ≤ 1000 ∧ ∀ st m, m ∈ (graphSem ns).next st → m.to.size ≤ 1000 := by
  obtain ⟨h1, h2, h3, h4⟩ := may_to hm
  have hn : ∀ k : Nat, k < 18446744073709551616 → (nst k).size ≤ 1000 := fun k hk => by
    have := encU_ten hk
    show (txt (encU k)).data.size ≤ _
    unfold txt
    simp
    omega
  refine ⟨hn 0 (by decide), fun st m hm' => ?_⟩
  simp only [graphSem] at hm'
  split at hm'
  · rename_i x hx
    obtain ⟨k, hk, hx⟩ := Option.bind_eq_some_iff.1 hx
    unfold movsOf at hm'
    obtain ⟨i, hi, he⟩ := List.mem_iff_getElem.1 hm'
    rw [List.getElem_zipWith] at he
    subst he
    simp only [movOf]
    split
    · rename_i hb
      have := h4 k x _ hx (List.getElem_mem _) hb
      exact hn _ (by omega)
    · exact Nat.zero_le _
  · cases hm'


theorem arcs_le {ns : List Node} {k : Nat} {x : Node} (h : ns[k]? = some x) : x.arcs.length ≤ arcsIn ns := by
  induction ns generalizing k with
  | nil => simp at h
  | cons y r ih =>
    rw [arcsIn]
    cases k with
    | zero => simp at h; rw [h]; omega
    | succ k => have := ih (k := k) (by simpa using h); omega
theorem graph_len {ns : List Node} (hm : mayN ns = true) (st : ByteArray) : ((graphSem ns).next st).length ≤ 1000000000 := by
  obtain ⟨_, _, h3, _⟩ := may_to hm
  simp only [graphSem]
  split
  · rename_i x hx
    obtain ⟨k, _, hx⟩ := Option.bind_eq_some_iff.1 hx
    have := arcs_le hx
    simp only [movsOf, List.length_zipWith, List.length_range]
    omega
  · simp

theorem apartK_nst {K q : Nat} (hq : q < K) (hl : K ≤ 17) (s : ByteArray) : apartK K (nst q ++ s) = some (q, s) := by
  unfold apartK
  rw [apart_nst q (by omega)]
  simp only
  rw [if_pos hq]
theorem nst_len {k : Nat} (hk : k < 4096) : (nst k).size ≤ 3 := by
  rw [size_nst]
  exact encU_le 2 k (by omega)

theorem fairMoves_mem {K q : Nat} {ac : Bool} {l : List Mov} {m' : Mov} (hK : 1 ≤ K) (hq : q < K) (h : m' ∈ fairMoves K q ac l) : ∃ j m, j < K ∧ m ∈ l ∧ m' = numMv (nst j) m := by
  have hn : ∀ j, nextK K j < K := fun j => Nat.mod_lt _ (by omega)
  unfold fairMoves at h
  split at h
  · obtain ⟨m, hm, rfl⟩ := List.mem_map.1 h
    refine ⟨_, m, ?_, hm, rfl⟩
    split
    · exact hn 0
    · omega
  · obtain ⟨m, hm, rfl⟩ := List.mem_map.1 h
    refine ⟨_, m, ?_, hm, rfl⟩
    split
    · exact hn q
    · exact hq

/-- What comes of the first state in copy 0: a number, and a text that is small. -/
theorem rch_fair {M : Sem} {K : Nat} (h1 : 1 ≤ K) (hl : K ≤ 17) (hb : M.begin.size ≤ 1000) (hn : ∀ st m, m ∈ M.next st → m.to.size ≤ 1000) :
    ∀ {s : ByteArray}, Rch (fairSem M K) s → s.size ≤ 1003 ∧ ∀ q r, apartK K s = some (q, r) → r.size ≤ 1000 := by
  have ok : ∀ (k : Nat) (r : ByteArray), k < K → r.size ≤ 1000 → (nst k ++ r).size ≤ 1003 ∧ ∀ q r', apartK K (nst k ++ r) = some (q, r') → r'.size ≤ 1000 := fun k r hk hr => by
    refine ⟨by rw [size_app]; have := nst_len (k := k) (by omega); omega, fun q r' h => ?_⟩
    rw [apartK_nst hk hl] at h
    cases h
    exact hr
  intro s hs
  induction hs with
  | start => exact ok 0 _ h1 hb
  | step _ hm ih =>
    rename_i s' m _
    simp only [fairSem] at hm
    cases ha : apartK K s' with
    | none => rw [ha] at hm; simp at hm
    | some p =>
      obtain ⟨q, r⟩ := p
      rw [ha] at hm
      simp only at hm
      obtain ⟨j, m0, hj, hm0, rfl⟩ := fairMoves_mem h1 (apartK_some ha).1 hm
      have hsz := hn r m0 hm0
      unfold numMv
      split
      · exact ok j m0.to hj hsz
      · exact ⟨by omega, fun q r' h => Nat.le_trans (apartK_some h).2 hsz⟩

theorem fair_fine {M : Sem} {K : Nat} (h1 : 1 ≤ K) (hl : K ≤ 17) (hb : M.begin.size ≤ 1000) (hn : ∀ st m, m ∈ M.next st → m.to.size ≤ 1000) : (fairSem M K).FineR := by
  refine ⟨?_, fun st m hr hm => ?_⟩
  · have := (rch_fair h1 hl hb hn (Rch.start (M := fairSem M K))).1
    exact Nat.le_trans this (by decide)
  · have := (rch_fair h1 hl hb hn (Rch.step hr hm)).1
    exact Nat.le_trans this (by decide)

/-- The two graphs of the example, and what is explored of their copies. -/
def fk0 : List Node := [⟨[⟨0, 0, 0, [], [], 0⟩], 0, false, false, true⟩, ⟨[], 0, false, false, false⟩]
def fk1 : List Node := [⟨[⟨0, 0, 0, [], [], 0⟩, ⟨1, 1, 0, [], [], 0⟩], 0, false, false, true⟩, ⟨[], 0, false, false, false⟩]
def fg0 : List Node := [⟨[⟨0, 1, 0, [], [], 0⟩], 0, false, false, true⟩, ⟨[⟨0, 2, 0, [], [], 0⟩], 0, false, false, false⟩, ⟨[⟨0, 0, 0, [], [], 0⟩], 0, false, false, false⟩]
def fg1 : List Node := [⟨[⟨0, 1, 0, [], [], 0⟩, ⟨1, 2, 0, [], [], 0⟩], 0, false, false, true⟩, ⟨[⟨0, 3, 0, [], [], 0⟩, ⟨1, 2, 0, [], [], 0⟩], 0, false, false, false⟩, ⟨[], 0, false, false, false⟩, ⟨[⟨0, 3, 0, [], [], 0⟩, ⟨1, 4, 0, [], [], 0⟩], 0, false, false, false⟩, ⟨[], 0, false, false, false⟩]
theorem fk0_may : mayN fk0 = true := by
  unfold fk0 mayN
  rfl
theorem fk1_may : mayN fk1 = true := by
  unfold fk1 mayN
  rfl

def st2 (a b : Nat) : ByteArray := nst a ++ nst b
theorem st2_eq {a b c d : Nat} (ha : a < 100) (hb : b < 100) (hc : c < 100) (hd : d < 100) : st2 a b = st2 c d ↔ (a = c ∧ b = d) := by
  constructor
  · intro h
    unfold st2 at h
    have h1 := apart_nst a (by omega) (nst b)
    rw [h, apart_nst c (by omega) (nst d)] at h1
    simp only [Option.some.injEq, Prod.mk.injEq] at h1
    exact ⟨h1.1.symm, nst_inj (by omega) (by omega) h1.2.symm⟩
  · rintro ⟨rfl, rfl⟩; rfl

theorem fk_step {ns : List Node} (q b : Nat) (hq : q < 3) (x : Node) (hx : ns[b]? = some x) (hl : ns.length ≤ 100) : (fairSem (graphSem ns) 3).next (st2 q b) = fairMoves 3 q x.ac (movsOf x.arcs) ∧ (fairSem (graphSem ns) 3).look (st2 q b) = ⟨x.props, x.en, x.pr, x.ac && decide (q = 0)⟩ := by
  have ha : apartK 3 (st2 q b) = some (q, nst b) := apartK_nst hq (by decide) _
  have h1 : (graphSem ns).next (nst b) = movsOf x.arcs := graph_next hx (by omega)
  have h2 : (graphSem ns).look (nst b) = ⟨x.props, x.en, x.pr, x.ac⟩ := graph_look hx (by omega)
  constructor
  · simp only [fairSem, ha, h1, h2]
  · simp only [fairSem, ha, h2]

theorem fk0_explored : explored (fairSem (graphSem fk0) 3) 20 = some (fg0, [st2 0 0, st2 1 0, st2 2 0]) := by
  obtain ⟨n0, l0⟩ := fk_step (ns := fk0) 0 0 (by decide) _ rfl (by decide)
  replace n0 : (fairSem (graphSem fk0) 3).next (st2 0 0) = [⟨0, 0, -1, -1, st2 1 0, 0, [], [], 0⟩] := n0.trans rfl
  replace l0 : (fairSem (graphSem fk0) 3).look (st2 0 0) = ⟨0, false, false, true⟩ := l0.trans rfl
  obtain ⟨n1, l1⟩ := fk_step (ns := fk0) 1 0 (by decide) _ rfl (by decide)
  replace n1 : (fairSem (graphSem fk0) 3).next (st2 1 0) = [⟨0, 0, -1, -1, st2 2 0, 0, [], [], 0⟩] := n1.trans rfl
  replace l1 : (fairSem (graphSem fk0) 3).look (st2 1 0) = ⟨0, false, false, false⟩ := l1.trans rfl
  obtain ⟨n2, l2⟩ := fk_step (ns := fk0) 2 0 (by decide) _ rfl (by decide)
  replace n2 : (fairSem (graphSem fk0) 3).next (st2 2 0) = [⟨0, 0, -1, -1, st2 0 0, 0, [], [], 0⟩] := n2.trans rfl
  replace l2 : (fairSem (graphSem fk0) 3).look (st2 2 0) = ⟨0, false, false, false⟩ := l2.trans rfl
  have s0 : oneState (fairSem (graphSem fk0) 3) 20 ⟨[], [st2 0 0], 0⟩ (st2 0 0) = some ⟨[⟨[⟨0, 1, 0, [], [], 0⟩], 0, false, false, true⟩], [st2 0 0, st2 1 0], 1⟩ := by
    simp [oneState, n0, l0, allMoves, oneMove, plc, st2_eq, arcOf, nodeOf]
  have s1 : oneState (fairSem (graphSem fk0) 3) 20 ⟨[⟨[⟨0, 1, 0, [], [], 0⟩], 0, false, false, true⟩], [st2 0 0, st2 1 0], 1⟩ (st2 1 0) = some ⟨[⟨[⟨0, 1, 0, [], [], 0⟩], 0, false, false, true⟩, ⟨[⟨0, 2, 0, [], [], 0⟩], 0, false, false, false⟩], [st2 0 0, st2 1 0, st2 2 0], 2⟩ := by
    simp [oneState, n1, l1, allMoves, oneMove, plc, st2_eq, arcOf, nodeOf]
  have s2 : oneState (fairSem (graphSem fk0) 3) 20 ⟨[⟨[⟨0, 1, 0, [], [], 0⟩], 0, false, false, true⟩, ⟨[⟨0, 2, 0, [], [], 0⟩], 0, false, false, false⟩], [st2 0 0, st2 1 0, st2 2 0], 2⟩ (st2 2 0) = some ⟨[⟨[⟨0, 1, 0, [], [], 0⟩], 0, false, false, true⟩, ⟨[⟨0, 2, 0, [], [], 0⟩], 0, false, false, false⟩, ⟨[⟨0, 0, 0, [], [], 0⟩], 0, false, false, false⟩], [st2 0 0, st2 1 0, st2 2 0], 3⟩ := by
    simp [oneState, n2, l2, allMoves, oneMove, plc, st2_eq, arcOf, nodeOf]
  have hb : (fairSem (graphSem fk0) 3).begin = st2 0 0 := rfl
  unfold explored
  rw [hb, explore_step (st := st2 0 0) rfl, s0, Option.bind_some, explore_step (st := st2 1 0) rfl, s1, Option.bind_some, explore_step (st := st2 2 0) rfl, s2, Option.bind_some, explore_end rfl]
  rfl

theorem fk1_explored : explored (fairSem (graphSem fk1) 3) 20 = some (fg1, [st2 0 0, st2 1 0, st2 1 1, st2 2 0, st2 0 1]) := by
  obtain ⟨n0, l0⟩ := fk_step (ns := fk1) 0 0 (by decide) _ rfl (by decide)
  replace n0 : (fairSem (graphSem fk1) 3).next (st2 0 0) = [⟨0, 0, -1, -1, st2 1 0, 0, [], [], 0⟩, ⟨1, 1, -1, -1, st2 1 1, 0, [], [], 0⟩] := n0.trans rfl
  replace l0 : (fairSem (graphSem fk1) 3).look (st2 0 0) = ⟨0, false, false, true⟩ := l0.trans rfl
  obtain ⟨n1, l1⟩ := fk_step (ns := fk1) 1 0 (by decide) _ rfl (by decide)
  replace n1 : (fairSem (graphSem fk1) 3).next (st2 1 0) = [⟨0, 0, -1, -1, st2 2 0, 0, [], [], 0⟩, ⟨1, 1, -1, -1, st2 1 1, 0, [], [], 0⟩] := n1.trans rfl
  replace l1 : (fairSem (graphSem fk1) 3).look (st2 1 0) = ⟨0, false, false, false⟩ := l1.trans rfl
  obtain ⟨n2, l2⟩ := fk_step (ns := fk1) 1 1 (by decide) _ rfl (by decide)
  replace n2 : (fairSem (graphSem fk1) 3).next (st2 1 1) = [] := n2.trans rfl
  replace l2 : (fairSem (graphSem fk1) 3).look (st2 1 1) = ⟨0, false, false, false⟩ := l2.trans rfl
  obtain ⟨n3, l3⟩ := fk_step (ns := fk1) 2 0 (by decide) _ rfl (by decide)
  replace n3 : (fairSem (graphSem fk1) 3).next (st2 2 0) = [⟨0, 0, -1, -1, st2 2 0, 0, [], [], 0⟩, ⟨1, 1, -1, -1, st2 0 1, 0, [], [], 0⟩] := n3.trans rfl
  replace l3 : (fairSem (graphSem fk1) 3).look (st2 2 0) = ⟨0, false, false, false⟩ := l3.trans rfl
  obtain ⟨n4, l4⟩ := fk_step (ns := fk1) 0 1 (by decide) _ rfl (by decide)
  replace n4 : (fairSem (graphSem fk1) 3).next (st2 0 1) = [] := n4.trans rfl
  replace l4 : (fairSem (graphSem fk1) 3).look (st2 0 1) = ⟨0, false, false, false⟩ := l4.trans rfl
  have s0 : oneState (fairSem (graphSem fk1) 3) 20 ⟨[], [st2 0 0], 0⟩ (st2 0 0) = some ⟨[⟨[⟨0, 1, 0, [], [], 0⟩, ⟨1, 2, 0, [], [], 0⟩], 0, false, false, true⟩], [st2 0 0, st2 1 0, st2 1 1], 2⟩ := by
    simp [oneState, n0, l0, allMoves, oneMove, plc, st2_eq, arcOf, nodeOf]
  have s1 : oneState (fairSem (graphSem fk1) 3) 20 ⟨[⟨[⟨0, 1, 0, [], [], 0⟩, ⟨1, 2, 0, [], [], 0⟩], 0, false, false, true⟩], [st2 0 0, st2 1 0, st2 1 1], 2⟩ (st2 1 0) = some ⟨[⟨[⟨0, 1, 0, [], [], 0⟩, ⟨1, 2, 0, [], [], 0⟩], 0, false, false, true⟩, ⟨[⟨0, 3, 0, [], [], 0⟩, ⟨1, 2, 0, [], [], 0⟩], 0, false, false, false⟩], [st2 0 0, st2 1 0, st2 1 1, st2 2 0], 4⟩ := by
    simp [oneState, n1, l1, allMoves, oneMove, plc, st2_eq, arcOf, nodeOf]
  have s2 : oneState (fairSem (graphSem fk1) 3) 20 ⟨[⟨[⟨0, 1, 0, [], [], 0⟩, ⟨1, 2, 0, [], [], 0⟩], 0, false, false, true⟩, ⟨[⟨0, 3, 0, [], [], 0⟩, ⟨1, 2, 0, [], [], 0⟩], 0, false, false, false⟩], [st2 0 0, st2 1 0, st2 1 1, st2 2 0], 4⟩ (st2 1 1) = some ⟨[⟨[⟨0, 1, 0, [], [], 0⟩, ⟨1, 2, 0, [], [], 0⟩], 0, false, false, true⟩, ⟨[⟨0, 3, 0, [], [], 0⟩, ⟨1, 2, 0, [], [], 0⟩], 0, false, false, false⟩, ⟨[], 0, false, false, false⟩], [st2 0 0, st2 1 0, st2 1 1, st2 2 0], 4⟩ := by
    simp [oneState, n2, l2, allMoves, oneMove, plc, st2_eq, arcOf, nodeOf]
  have s3 : oneState (fairSem (graphSem fk1) 3) 20 ⟨[⟨[⟨0, 1, 0, [], [], 0⟩, ⟨1, 2, 0, [], [], 0⟩], 0, false, false, true⟩, ⟨[⟨0, 3, 0, [], [], 0⟩, ⟨1, 2, 0, [], [], 0⟩], 0, false, false, false⟩, ⟨[], 0, false, false, false⟩], [st2 0 0, st2 1 0, st2 1 1, st2 2 0], 4⟩ (st2 2 0) = some ⟨[⟨[⟨0, 1, 0, [], [], 0⟩, ⟨1, 2, 0, [], [], 0⟩], 0, false, false, true⟩, ⟨[⟨0, 3, 0, [], [], 0⟩, ⟨1, 2, 0, [], [], 0⟩], 0, false, false, false⟩, ⟨[], 0, false, false, false⟩, ⟨[⟨0, 3, 0, [], [], 0⟩, ⟨1, 4, 0, [], [], 0⟩], 0, false, false, false⟩], [st2 0 0, st2 1 0, st2 1 1, st2 2 0, st2 0 1], 6⟩ := by
    simp [oneState, n3, l3, allMoves, oneMove, plc, st2_eq, arcOf, nodeOf]
  have s4 : oneState (fairSem (graphSem fk1) 3) 20 ⟨[⟨[⟨0, 1, 0, [], [], 0⟩, ⟨1, 2, 0, [], [], 0⟩], 0, false, false, true⟩, ⟨[⟨0, 3, 0, [], [], 0⟩, ⟨1, 2, 0, [], [], 0⟩], 0, false, false, false⟩, ⟨[], 0, false, false, false⟩, ⟨[⟨0, 3, 0, [], [], 0⟩, ⟨1, 4, 0, [], [], 0⟩], 0, false, false, false⟩], [st2 0 0, st2 1 0, st2 1 1, st2 2 0, st2 0 1], 6⟩ (st2 0 1) = some ⟨[⟨[⟨0, 1, 0, [], [], 0⟩, ⟨1, 2, 0, [], [], 0⟩], 0, false, false, true⟩, ⟨[⟨0, 3, 0, [], [], 0⟩, ⟨1, 2, 0, [], [], 0⟩], 0, false, false, false⟩, ⟨[], 0, false, false, false⟩, ⟨[⟨0, 3, 0, [], [], 0⟩, ⟨1, 4, 0, [], [], 0⟩], 0, false, false, false⟩, ⟨[], 0, false, false, false⟩], [st2 0 0, st2 1 0, st2 1 1, st2 2 0, st2 0 1], 6⟩ := by
    simp [oneState, n4, l4, allMoves, oneMove, plc, st2_eq, arcOf, nodeOf]
  have hb : (fairSem (graphSem fk1) 3).begin = st2 0 0 := rfl
  unfold explored
  rw [hb, explore_step (st := st2 0 0) rfl, s0, Option.bind_some, explore_step (st := st2 1 0) rfl, s1, Option.bind_some, explore_step (st := st2 1 1) rfl, s2, Option.bind_some, explore_step (st := st2 2 0) rfl, s3, Option.bind_some, explore_step (st := st2 0 1) rfl, s4, Option.bind_some, explore_end rfl]
  rfl

theorem fg0_cycle : cycleN fg0 = true := by decide
theorem fg1_cycle : cycleN fg1 = false := by decide
theorem toes_fg0 : Toes fg0 := by
  intro k x hx a ha _
  have hl := (List.getElem?_eq_some_iff.1 hx).1
  have : k = 0 ∨ k = 1 ∨ k = 2 := by simp [fg0] at hl; omega
  rcases this with rfl | rfl | rfl <;> cases hx <;> (simp at ha; subst ha; exact ⟨_, rfl, by decide⟩)
theorem toes_fg1 : Toes fg1 := by
  intro k x hx a ha _
  have hl := (List.getElem?_eq_some_iff.1 hx).1
  have : k = 0 ∨ k = 1 ∨ k = 2 ∨ k = 3 ∨ k = 4 := by simp [fg1] at hl; omega
  rcases this with rfl | rfl | rfl | rfl | rfl <;> cases hx <;> simp at ha <;> (rcases ha with rfl | rfl <;> first | exact ⟨1, rfl, by decide⟩ | exact ⟨2, rfl, by decide⟩ | exact ⟨3, rfl, by decide⟩ | exact ⟨4, rfl, by decide⟩)

end Go.Proofs.Ytcpgpiokjghcnaa
/-
  The example's graphs as the law makes them.
-/
set_option linter.unusedVariables false
set_option linter.unusedSimpArgs false
namespace Go.Proofs.Ytcpgpiokjghcnaa
open Go.RowKit

theorem three_boxes (w : World) (a b c : Obj) : Nu w (((w.alloc a).alloc b).alloc c) ∧ (((w.alloc a).alloc b).alloc c).heap[w.heap.size]? = some a ∧ (((w.alloc a).alloc b).alloc c).heap[w.heap.size + 1]? = some b ∧ (((w.alloc a).alloc b).alloc c).heap[w.heap.size + 2]? = some c := by
  have nx : ∀ (v : World) (o o' : Obj) (i : Nat), v.heap[i]? = some o' → (v.alloc o).heap[i]? = some o' := fun v o o' i h => (Mv.alloc (fun _ => False) v o).heap h id
  have h1 := heap_alloc_new w a
  have h2 := heap_alloc_new (w.alloc a) b
  have h3 := heap_alloc_new ((w.alloc a).alloc b) c
  simp only [World.size_alloc, Nat.add_assoc, Nat.reduceAdd] at h2 h3
  exact ⟨mv0 (mv0 (Mv.alloc _ _ _) (Mv.alloc _ _ _)) (Mv.alloc _ _ _), nx _ _ _ _ (nx _ _ _ _ h1), nx _ _ _ _ h2, h3⟩

theorem l18_infoArc : (Try.prog.info? 69).map (fun i => (i.zero, i.size, i.bytes)) = some (some (.agg #[.int .i64 0, .int .i64 0, .int .i64 0, .slice none 0 0, .slice none 0 0, .int .u64 0]), 6, 80) := by kernel_rfl

/-- Two nodes in a row: the arcs of the first one, nothing of the second one. -/
theorem two_nodes {W : World} {nb : Nat} {ao : Option Addr} {ac : Nat} {l : List Arc} (hb : W.heap[nb]? = some (.cells #[.slice ao l.length ac, .int .u64 0, .bool false, .bool false, .bool true, .slice none 0 0, .int .u64 0, .bool false, .bool false, .bool false] 65 (0, 0))) (ha : ArcsAt W W.heap.size ao l) :
    NodesAt W W.heap.size (some ⟨nb, 0, none⟩) [⟨l, 0, false, false, true⟩, ⟨[], 0, false, false, false⟩] := by
  refine ⟨by simp, .inr ⟨nb, 0, rfl, lt_of_block hb, fun i hi => ?_⟩⟩
  have : i = 0 ∨ i = 1 := by simp at hi; omega
  rcases this with rfl | rfl
  · exact ⟨⟨_, cell_blk hb 0, ao, ac, rfl, ha⟩, cell_blk hb 1, cell_blk hb 2, cell_blk hb 3, cell_blk hb 4⟩
  · exact ⟨⟨_, cell_blk hb 5, none, 0, rfl, ⟨by simp, .inl rfl⟩⟩, cell_blk hb 6, cell_blk hb 7, cell_blk hb 8, cell_blk hb 9⟩

theorem arc_at {W : World} {B b o : Nat} {p t : Int} (h0 : W.cell? ⟨b, o, none⟩ = some (.int .i64 p)) (h1 : W.cell? ⟨b, o + 1, none⟩ = some (.int .i64 t)) (h2 : W.cell? ⟨b, o + 2, none⟩ = some (.int .i64 0)) (h3 : W.cell? ⟨b, o + 3, none⟩ = some (.slice none 0 0)) (h4 : W.cell? ⟨b, o + 4, none⟩ = some (.slice none 0 0)) (h5 : W.cell? ⟨b, o + 5, none⟩ = some (.int .u64 0)) : ArcAt W B b o ⟨p, t, 0, [], [], 0⟩ :=
  ⟨h0, h1, h2, ⟨_, h3, none, 0, rfl, by simp, .inl rfl⟩, ⟨_, h4, none, 0, rfl, by simp, .inl rfl⟩, h5⟩

set_option maxHeartbeats 4000000 in
set_option maxRecDepth 40000 in
theorem one_no (w : World) : Calls Try.prog 13 #[.bool false] w fun e w' => Nu w w' ∧ ∃ na nc, e = .returned (.agg #[.slice na 2 nc]) ∧ NodesAt w' w'.heap.size na fk0 := by
  go_enter Try.func13, Try.ntmps13
  go_upto_region 2 with fail
  simp only [Nat.add_assoc, Nat.reduceAdd]
  have HB := hid (three_boxes w (.cells #[.slice none 0 0] 24) (.cells #[.int .i64 0, .int .i64 0, .int .i64 0, .slice none 0 0, .slice none 0 0, .int .u64 0] 69) (.cells #[.slice (some ⟨w.heap.size + 1, 0, none⟩) 1 1, .int .u64 0, .bool false, .bool false, .bool true] 65))
  generalize ((w.alloc (.cells #[.slice none 0 0] 24)).alloc (.cells #[.int .i64 0, .int .i64 0, .int .i64 0, .slice none 0 0, .slice none 0 0, .int .u64 0] 69)).alloc (.cells #[.slice (some ⟨w.heap.size + 1, 0, none⟩) 1 1, .int .u64 0, .bool false, .bool false, .bool true] 65) = w3 at *
  have c0 := cell_blk HB.out.2.2.2 0
  have c1 := cell_blk HB.out.2.2.2 1
  have c2 := cell_blk HB.out.2.2.2 2
  have c3 := cell_blk HB.out.2.2.2 3
  have c4 := cell_blk HB.out.2.2.2 4
  simp only [List.size_toArray, List.length_cons, List.length_nil, Nat.reduceAdd, Nat.lt_add_one, Nat.reduceLT, getElem?_pos, List.getElem_toArray, List.getElem_cons_zero, List.getElem_cons_succ, Nat.zero_lt_succ] at c0 c1 c2 c3 c4
  have HA4 : Hid ((w3.alloc (.cells #[.slice (some ⟨w.heap.size + 1, 0, none⟩) 1 1, .int .u64 0, .bool false, .bool false, .bool true, .slice none 0 0, .int .u64 0, .bool false, .bool false, .bool false] 65)).heap[w3.heap.size]? = some (.cells #[.slice (some ⟨w.heap.size + 1, 0, none⟩) 1 1, .int .u64 0, .bool false, .bool false, .bool true, .slice none 0 0, .int .u64 0, .bool false, .bool false, .bool false] 65 (0, 0))) := heap_alloc_new w3 _
  have HN4 : Hid (Nu w3 (w3.alloc (.cells #[.slice (some ⟨w.heap.size + 1, 0, none⟩) 1 1, .int .u64 0, .bool false, .bool false, .bool true, .slice none 0 0, .int .u64 0, .bool false, .bool false, .bool false] 65))) := Mv.alloc _ _ _
  have hr := HN4.out.heap HB.out.2.1 id
  have r0 := cell_blk hr 0
  have r1 := free_blk hr 0
  go_wp2
  have hset := setCell_blk (i := 0) (u := .slice (some ⟨w3.heap.size, 0, none⟩) 2 2) hr
  have hmset : Mv (· = w.heap.size) _ ((w3.alloc (.cells #[.slice (some ⟨w.heap.size + 1, 0, none⟩) 1 1, .int .u64 0, .bool false, .bool false, .bool true, .slice none 0 0, .int .u64 0, .bool false, .bool false, .bool false] 65)).setCell ⟨w.heap.size, 0, none⟩ (.slice (some ⟨w3.heap.size, 0, none⟩) 2 2)) := Mv.setCell _ ⟨w.heap.size, 0, none⟩ _
  have hlt := lt_of_block HB.out.2.2.2
  refine bodyPost_ret (results_cell_row rfl _ _ w.heap.size 24 _ (0, 0) _ rfl hset Try.underlying24 rfl (by kernel_rfl)) rfl ⟨(mv0 HB.out.1 HN4.out).trans hmset (fun x hx => .inr (by omega)), some ⟨w3.heap.size, 0, none⟩, 2, rfl, ?_⟩
  have hn := hmset.heap HA4.out (by omega)
  have har := hmset.heap (HN4.out.heap HB.out.2.2.1 id) (by omega)
  refine two_nodes (l := [⟨0, 0, 0, [], [], 0⟩]) hn ⟨by simp, .inr ⟨w.heap.size + 1, 0, rfl, lt_of_block har, fun i hi => ?_⟩⟩
  have : i = 0 := by simp at hi; omega
  subst this
  exact arc_at (cell_blk har 0) (cell_blk har 1) (cell_blk har 2) (cell_blk har 3) (cell_blk har 4) (cell_blk har 5)

set_option maxHeartbeats 4000000 in
set_option maxRecDepth 40000 in
theorem one_yes (w : World) : Calls Try.prog 13 #[.bool true] w fun e w' => Nu w w' ∧ ∃ na nc, e = .returned (.agg #[.slice na 2 nc]) ∧ NodesAt w' w'.heap.size na fk1 := by
  go_enter Try.func13, Try.ntmps13
  go_upto_region 3 with fail
  simp only [Nat.add_assoc, Nat.reduceAdd]
  have HB := hid (three_boxes w (.cells #[.slice none 0 0] 24) (.cells #[.int .i64 0, .int .i64 0, .int .i64 0, .slice none 0 0, .slice none 0 0, .int .u64 0] 69) (.cells #[.slice (some ⟨w.heap.size + 1, 0, none⟩) 1 1, .int .u64 0, .bool false, .bool false, .bool true] 65))
  generalize ((w.alloc (.cells #[.slice none 0 0] 24)).alloc (.cells #[.int .i64 0, .int .i64 0, .int .i64 0, .slice none 0 0, .slice none 0 0, .int .u64 0] 69)).alloc (.cells #[.slice (some ⟨w.heap.size + 1, 0, none⟩) 1 1, .int .u64 0, .bool false, .bool false, .bool true] 65) = w3 at *
  have c0 := cell_blk HB.out.2.2.2 0
  simp only [List.size_toArray, List.length_cons, List.length_nil, Nat.reduceAdd, Nat.lt_add_one, Nat.reduceLT, getElem?_pos, List.getElem_toArray, List.getElem_cons_zero, List.getElem_cons_succ, Nat.zero_lt_succ] at c0
  have HR3 : Hid (w3.ownsRow (w.heap.size + 1) 69 6 (.slice (some ⟨w.heap.size + 1, 0, none⟩) 1 1) 1 [.int .i64 0, .int .i64 0, .int .i64 0, .slice none 0 0, .slice none 0 0, .int .u64 0]) := ⟨rfl, .inr ⟨w.heap.size + 1, 1, _, rfl, Nat.le_refl _, HB.out.2.2.1, Nat.le_refl _, by decide, rfl, rfl⟩⟩
  have HN1 : Hid (Nu w3 (w3.alloc (.cells #[.int .i64 1, .int .i64 1, .int .i64 0, .slice none 0 0, .slice none 0 0, .int .u64 0] 69))) := Mv.alloc _ _ _
  have HR4 := hid (row_mv HN1.out HR3.out (fun _ _ => id))
  have HNB : Hid ((w3.alloc (.cells #[.int .i64 1, .int .i64 1, .int .i64 0, .slice none 0 0, .slice none 0 0, .int .u64 0] 69)).heap[w3.heap.size]? = some (.cells #[.int .i64 1, .int .i64 1, .int .i64 0, .slice none 0 0, .slice none 0 0, .int .u64 0] 69 (0, 0))) := heap_alloc_new w3 _
  have hlt := lt_of_block HB.out.2.2.2
  obtain ⟨i0, hi, hz0, hz1, hz2⟩ := n_info_parts l18_infoArc
  go_wp2_with (at_builtin; refine wpList_append_lies _ rfl _ _ 63 rfl (w.heap.size + 1) 69 i0 (.agg #[.int .i64 0, .int .i64 0, .int .i64 0, .slice none 0 0, .slice none 0 0, .int .u64 0]) 6 80 Try.underlying63 hi hz0 hz1 hz2 rfl (by decide) _ 1 [.int .i64 0, .int .i64 0, .int .i64 0, .slice none 0 0, .slice none 0 0, .int .u64 0] rfl HR4.out ⟨w3.heap.size, 0, none⟩ 1 1 [.int .i64 1, .int .i64 1, .int .i64 0, .slice none 0 0, .slice none 0 0, .int .u64 0] rfl rfl (World.news_of_block HNB.out) (by simp [Value.oneCell']) (by decide) (by unfold maxLen; omega) (by omega) (by simp; omega) _ rfl ?_)
  intro g5 cap5 w5 hown hgrow hat hg5
  have hm5 := Mv.grown hgrow
  have HX5 : Hid (w5.heap[w.heap.size + 2]? = some (.cells #[.slice (some ⟨w.heap.size + 1, 0, none⟩) 1 1, .int .u64 0, .bool false, .bool false, .bool true] 65 (0, 0))) := hm5.heap (HN1.out.heap HB.out.2.2.2 id) (fun e => by simp [Value.ownBlock] at e)
  have HR5 : Hid (w5.heap[w.heap.size]? = some (.cells #[.slice none 0 0] 24 (0, 0))) := hm5.heap (HN1.out.heap HB.out.2.1 id) (fun e => by simp [Value.ownBlock] at e)
  have HN5 : Hid (Nu w w5) := (mv0 HB.out.1 HN1.out).trans hm5 (fun x hx => .inr (by simp [Value.ownBlock] at hx; omega))
  have HO5 := hid hown
  have HL5 : Hid (w.heap.size + 2 < w5.heap.size) := lt_of_block HX5.out
  clear hown hgrow hat hg5 hm5 HNB HR4 HN1 HR3 c0 HB hlt
  have e0 := cell_blk HX5.out 0
  have e1 := free_blk HX5.out 0
  go_upto_region 4 with fail
  have hm6 : Mv (· = w.heap.size + 2) w5 (w5.setCell ⟨w.heap.size + 2, 0, none⟩ (.slice (some ⟨g5, 0, none⟩) 2 cap5)) := Mv.setCell w5 ⟨w.heap.size + 2, 0, none⟩ _
  have HX6 : Hid ((w5.setCell ⟨w.heap.size + 2, 0, none⟩ (.slice (some ⟨g5, 0, none⟩) 2 cap5)).heap[w.heap.size + 2]? = some (.cells #[.slice (some ⟨g5, 0, none⟩) 2 cap5, .int .u64 0, .bool false, .bool false, .bool true] 65 (0, 0))) := setCell_blk HX5.out
  have HR6 := hid (hm6.heap HR5.out (by omega))
  have HO6 : Hid ((w5.setCell ⟨w.heap.size + 2, 0, none⟩ (.slice (some ⟨g5, 0, none⟩) 2 cap5)).ownsRow (w.heap.size + 1) 69 6 (.slice (some ⟨g5, 0, none⟩) 2 cap5) 2 [.int .i64 0, .int .i64 0, .int .i64 0, .slice none 0 0, .slice none 0 0, .int .u64 0, .int .i64 1, .int .i64 1, .int .i64 0, .slice none 0 0, .slice none 0 0, .int .u64 0]) := row_mv hm6 HO5.out (fun k hk e => by
    obtain ⟨_, _, cs, hc⟩ := row_blk HO5.out hk
    have e' : k = w.heap.size + 2 := e
    rw [e', HX5.out] at hc
    simp at hc)
  have HN6 : Hid (Nu w (w5.setCell ⟨w.heap.size + 2, 0, none⟩ (.slice (some ⟨g5, 0, none⟩) 2 cap5))) := HN5.out.trans hm6 (fun x hx => .inr (by omega))
  have HL6 : Hid (w.heap.size + 2 < (w5.setCell ⟨w.heap.size + 2, 0, none⟩ (.slice (some ⟨g5, 0, none⟩) 2 cap5)).heap.size) := lt_of_block HX6.out
  generalize w5.setCell ⟨w.heap.size + 2, 0, none⟩ (.slice (some ⟨g5, 0, none⟩) 2 cap5) = w6 at *
  clear e0 e1 hm6 HX5 HR5 HO5 HN5 HL5
  have c0 := cell_blk HX6.out 0
  have c1 := cell_blk HX6.out 1
  have c2 := cell_blk HX6.out 2
  have c3 := cell_blk HX6.out 3
  have c4 := cell_blk HX6.out 4
  simp only [List.size_toArray, List.length_cons, List.length_nil, Nat.reduceAdd, Nat.lt_add_one, Nat.reduceLT, getElem?_pos, List.getElem_toArray, List.getElem_cons_zero, List.getElem_cons_succ, Nat.zero_lt_succ] at c0 c1 c2 c3 c4
  have HA4 : Hid ((w6.alloc (.cells #[.slice (some ⟨g5, 0, none⟩) 2 cap5, .int .u64 0, .bool false, .bool false, .bool true, .slice none 0 0, .int .u64 0, .bool false, .bool false, .bool false] 65)).heap[w6.heap.size]? = some (.cells #[.slice (some ⟨g5, 0, none⟩) 2 cap5, .int .u64 0, .bool false, .bool false, .bool true, .slice none 0 0, .int .u64 0, .bool false, .bool false, .bool false] 65 (0, 0))) := heap_alloc_new w6 _
  have HN4 : Hid (Nu w6 (w6.alloc (.cells #[.slice (some ⟨g5, 0, none⟩) 2 cap5, .int .u64 0, .bool false, .bool false, .bool true, .slice none 0 0, .int .u64 0, .bool false, .bool false, .bool false] 65))) := Mv.alloc _ _ _
  have hr := HN4.out.heap HR6.out id
  have r0 := cell_blk hr 0
  have r1 := free_blk hr 0
  go_wp2
  have hset := setCell_blk (i := 0) (u := .slice (some ⟨w6.heap.size, 0, none⟩) 2 2) hr
  have hmset : Mv (· = w.heap.size) _ ((w6.alloc (.cells #[.slice (some ⟨g5, 0, none⟩) 2 cap5, .int .u64 0, .bool false, .bool false, .bool true, .slice none 0 0, .int .u64 0, .bool false, .bool false, .bool false] 65)).setCell ⟨w.heap.size, 0, none⟩ (.slice (some ⟨w6.heap.size, 0, none⟩) 2 2)) := Mv.setCell _ ⟨w.heap.size, 0, none⟩ _
  have hlt := HL6.out
  have HO7 := row_mv hmset (row_mv HN4.out HO6.out (fun _ _ => id)) (fun k hk e => by
    have := (row_blk HO6.out hk).1
    have e' : k = w.heap.size := e
    omega)
  refine bodyPost_ret (results_cell_row rfl _ _ w.heap.size 24 _ (0, 0) _ rfl hset Try.underlying24 rfl (by kernel_rfl)) rfl ⟨(mv0 HN6.out HN4.out).trans hmset (fun x hx => .inr (by omega)), some ⟨w6.heap.size, 0, none⟩, 2, rfl, ?_⟩
  have hn := hmset.heap HA4.out (by omega)
  have hc : ∀ i v, i < 12 → ([.int .i64 0, .int .i64 0, .int .i64 0, .slice none 0 0, .slice none 0 0, .int .u64 0, .int .i64 1, .int .i64 1, .int .i64 0, .slice none 0 0, .slice none 0 0, .int .u64 0] : List Value)[i]? = some v → _ := fun i v hi h => HO7.cells (g := g5) rfl i v h
  simp only [add_block] at hc
  refine two_nodes (l := [⟨0, 0, 0, [], [], 0⟩, ⟨1, 1, 0, [], [], 0⟩]) hn ⟨by simp, .inr ⟨g5, 0, rfl, (row_blk HO7 rfl).2.1, fun i hi => ?_⟩⟩
  have : i = 0 ∨ i = 1 := by simp at hi; omega
  rcases this with rfl | rfl
  · exact arc_at (hc 0 _ (by omega) rfl) (hc 1 _ (by omega) rfl) (hc 2 _ (by omega) rfl) (hc 3 _ (by omega) rfl) (hc 4 _ (by omega) rfl) (hc 5 _ (by omega) rfl)
  · exact arc_at (hc 6 _ (by omega) rfl) (hc 7 _ (by omega) rfl) (hc 8 _ (by omega) rfl) (hc 9 _ (by omega) rfl) (hc 10 _ (by omega) rfl) (hc 11 _ (by omega) rfl)

end Go.Proofs.Ytcpgpiokjghcnaa
/-
  The example of the law: known is true at every world. (mkfakn.py writes this.)
-/
set_option linter.unusedVariables false
set_option linter.unusedSimpArgs false
namespace Go.Proofs.Ytcpgpiokjghcnaa
open Go.RowKit

theorem graph_fine1 {ns : List Node} (hm : mayN ns = true) : (graphSem ns).Fine := by
  obtain ⟨h1, h2⟩ := graph_short hm
  exact ⟨Nat.le_trans h1 (by decide), fun st m h => Nat.le_trans (h2 st m h) (by decide)⟩
theorem fine_fair {ns : List Node} {K : Nat} (h1 : 1 ≤ K) (h2 : K ≤ 17) (hm : mayN ns = true) : (fairSem (graphSem ns) K).FineR := by
  obtain ⟨h3, h4⟩ := graph_short hm
  exact fair_fine h1 h2 h3 h4

theorem of_two (w : World) (ao : Option Addr) (cap : Nat) (ns : List Node) (h : NodesAt w w.heap.size ao ns) (hm : mayN ns = true) : Calls Try.prog 4 #[.agg #[.slice ao ns.length cap]] w fun e w' =>
    Nu w w' ∧ ∃ F r0, e = .returned (.tuple #[.iface 48 r0, .int .i64 0]) ∧ SysAt F w' 48 r0 (graphSem ns) := by
  refine (Of_anyT w ao cap ns h).mono ?_
  rintro e w' ⟨hn, ⟨h', _⟩ | ⟨_, F, r0, rfl, hs, _⟩⟩
  · rw [hm] at h'; cases h'
  · exact ⟨hn, F, r0, rfl, hs⟩

theorem fair_of (w : World) (p : Nat) (hp : p ≤ 16) (F : Nat → Prop) (r0 : Value) (ns : List Node) (hm : mayN ns = true) (hs : SysAt F w 48 r0 (graphSem ns)) :
    Calls Try.prog 7 #[.iface 48 r0, .int .i64 (p : Int)] w fun e w' =>
    Nu w w' ∧ ∃ F' pb, e = .returned (.tuple #[.iface 55 (.pointer (some ⟨pb, 0, none⟩)), .int .i64 0]) ∧ SysAt F' w' 55 (.pointer (some ⟨pb, 0, none⟩)) (fairSem (graphSem ns) (p + 1)) := by
  refine (fairOf_any w r0 p hp).mono ?_
  rintro e w' ⟨hn, cb, no, nc, rfl, h1, h2, h3, h4, hc⟩
  obtain ⟨h5, h6⟩ := graph_short hm
  exact ⟨hn, _, cb, rfl, hc.sys (fun b hb => by rcases hb with rfl | rfl <;> assumption) (hs.nu hn) (Nat.le_trans h5 (by decide)) (fun s m h => Nat.le_trans (h6 s m h) (by decide)) (graph_len hm)⟩

theorem kn_expl (w : World) (F : Nat → Prop) (r0 : Value) (ns : List Node) (hm : mayN ns = true) (g : List Node) (ss : List ByteArray) (hs : SysAt F w 55 r0 (fairSem (graphSem ns) 3)) (he : explored (fairSem (graphSem ns) 3) 20 = some (g, ss)) :
    Calls Try.prog 14 #[.iface 55 r0, .int .i64 20] w fun e w' => Nu w w' ∧ ∃ na nc sa sc, e = .returned (.tuple #[.agg #[.slice na g.length nc], .slice sa ss.length sc, .bool true]) ∧ NodesAt w' w'.heap.size na g := by
  refine (explore_anyR w F _ r0 _ 20 hs (fine_fair (by decide) (by decide) hm) (by decide) (by decide)).mono ?_
  rintro e w' ⟨hn, ⟨h, _⟩ | ⟨ns, s2, na, nc, sa, sc, h, rfl, hna, _⟩⟩
  · rw [show (20 : Int).toNat = 20 from rfl, he] at h; cases h
  · rw [show (20 : Int).toNat = 20 from rfl, he] at h
    cases h
    exact ⟨hn, na, nc, sa, sc, rfl, hna⟩

set_option maxHeartbeats 8000000 in
set_option maxRecDepth 40000 in
theorem known18_any (w : World) : Calls Try.prog 6 #[] w fun e w' => e = .returned (.bool true) ∧ Nu w w' := by
  go_enter Try.func6, Try.ntmps6
  go_wp2_with fail
  go_loopw [1] (fun iv wr => ∃ j : Nat, j ≤ 2 ∧ iv = .int .i64 (j : Int) ∧ Hid (Nu w wr)) (fun iv _ => 2 - (intOf iv).toNat)
  case atStart => exact ⟨0, by omega, rfl, Mv.refl _ _⟩
  case round =>
    obtain ⟨j, hj, rfl, HNR⟩ := hrel
    have : j = 0 ∨ j = 1 ∨ j = 2 := by omega
    rcases this with rfl | rfl | rfl
    · go_wp2_with fail
      refine (one_no wr).mono ?_
      rintro e w1 ⟨hn1, na1, nc1, rfl, hna1⟩
      have HN1 := hid (mv0 HNR.out hn1)
      have HNA := hid hna1
      clear hn1 hna1
      go_wp2_with fail
      refine (of_two w1 na1 nc1 fk0 HNA.out fk0_may).mono ?_
      rintro e w2 ⟨hn2, F2, r2, rfl, hs2⟩
      have HN2 := hid (mv0 HN1.out hn2)
      have HS2 := hid hs2
      clear hn2 hs2 HNA HN1
      go_wp2_with fail
      refine (fair_of w2 2 (by decide) F2 r2 fk0 fk0_may HS2.out).mono ?_
      rintro e w3 ⟨hn3, F3, pb3, rfl, hs3⟩
      have HN3 := hid (mv0 HN2.out hn3)
      have HS3 := hid hs3
      clear hn3 hs3 HS2 HN2
      go_wp2_with fail
      refine (kn_expl w3 F3 _ fk0 fk0_may fg0 _ HS3.out fk0_explored).mono ?_
      rintro e w4 ⟨hn4, na4, nc4, sa4, sc4, rfl, hna4⟩
      have HN4 := hid (mv0 HN3.out hn4)
      have HNA := hid hna4
      clear hn4 hna4 HS3 HN3
      go_upto_region 11 with fail
      have HA5 : Hid (Nu w4 (w4.alloc (.cells #[.slice na4 fg0.length nc4] 24))) := Mv.alloc _ _ _
      have c5 : (w4.alloc (.cells #[.slice na4 fg0.length nc4] 24)).cell? ⟨w4.heap.size, 0, none⟩ = some (.slice na4 fg0.length nc4) := cell_blk (heap_alloc_new w4 _) 0
      have HNA5 : Hid (NodesAt (w4.alloc (.cells #[.slice na4 fg0.length nc4] 24)) (w4.alloc (.cells #[.slice na4 fg0.length nc4] 24)).heap.size na4 fg0) := HNA.out.below HA5.out.nu_below HA5.out.size
      generalize w4.heap.size = b5 at *
      generalize w4.alloc (.cells #[.slice na4 fg0.length nc4] 24) = w5 at *
      have HN5 := hid (mv0 HN4.out HA5.out)
      clear HA5 HNA HN4
      go_wp2_with fail
      refine (cycle_any w5 na4 nc4 fg0 HNA5.out (by decide) toes_fg0 (by decide)).mono ?_
      rintro e w6 ⟨rfl, hn6⟩
      rw [fg0_cycle]
      have HN6 := hid (mv0 HN5.out hn6)
      clear hn6 HN5 HNA5 c5
      go_wp2_with fail
      go_roundw
      case rel => exact ⟨1, by omega, rfl, HN6.out⟩
      case measure => simp [intOf]
    · go_wp2_with fail
      refine (one_yes wr).mono ?_
      rintro e w1 ⟨hn1, na1, nc1, rfl, hna1⟩
      have HN1 := hid (mv0 HNR.out hn1)
      have HNA := hid hna1
      clear hn1 hna1
      go_wp2_with fail
      refine (of_two w1 na1 nc1 fk1 HNA.out fk1_may).mono ?_
      rintro e w2 ⟨hn2, F2, r2, rfl, hs2⟩
      have HN2 := hid (mv0 HN1.out hn2)
      have HS2 := hid hs2
      clear hn2 hs2 HNA HN1
      go_wp2_with fail
      refine (fair_of w2 2 (by decide) F2 r2 fk1 fk1_may HS2.out).mono ?_
      rintro e w3 ⟨hn3, F3, pb3, rfl, hs3⟩
      have HN3 := hid (mv0 HN2.out hn3)
      have HS3 := hid hs3
      clear hn3 hs3 HS2 HN2
      go_wp2_with fail
      refine (kn_expl w3 F3 _ fk1 fk1_may fg1 _ HS3.out fk1_explored).mono ?_
      rintro e w4 ⟨hn4, na4, nc4, sa4, sc4, rfl, hna4⟩
      have HN4 := hid (mv0 HN3.out hn4)
      have HNA := hid hna4
      clear hn4 hna4 HS3 HN3
      go_upto_region 11 with fail
      have HA5 : Hid (Nu w4 (w4.alloc (.cells #[.slice na4 fg1.length nc4] 24))) := Mv.alloc _ _ _
      have c5 : (w4.alloc (.cells #[.slice na4 fg1.length nc4] 24)).cell? ⟨w4.heap.size, 0, none⟩ = some (.slice na4 fg1.length nc4) := cell_blk (heap_alloc_new w4 _) 0
      have HNA5 : Hid (NodesAt (w4.alloc (.cells #[.slice na4 fg1.length nc4] 24)) (w4.alloc (.cells #[.slice na4 fg1.length nc4] 24)).heap.size na4 fg1) := HNA.out.below HA5.out.nu_below HA5.out.size
      generalize w4.heap.size = b5 at *
      generalize w4.alloc (.cells #[.slice na4 fg1.length nc4] 24) = w5 at *
      have HN5 := hid (mv0 HN4.out HA5.out)
      clear HA5 HNA HN4
      go_wp2_with fail
      refine (cycle_any w5 na4 nc4 fg1 HNA5.out (by decide) toes_fg1 (by decide)).mono ?_
      rintro e w6 ⟨rfl, hn6⟩
      rw [fg1_cycle]
      have HN6 := hid (mv0 HN5.out hn6)
      clear hn6 HN5 HNA5 c5
      go_wp2_with fail
      go_roundw
      case rel => exact ⟨2, by omega, rfl, HN6.out⟩
      case measure => simp [intOf]
    · go_wp2
      go_ret
      exact ⟨rfl, HNR.out⟩

end Go.Proofs.Ytcpgpiokjghcnaa
/-
  What the law's walk calls besides: pick; the reference's Move.
-/
set_option linter.unusedVariables false
set_option linter.unusedSimpArgs false
namespace Go.Proofs.Ytcpgpiokjghcnaa
open Go.RowKit

/-- A move's numbers can be read. -/
def XRd (w : World) (B : Nat) (x : X) : Prop := IntsAt w B x.ra x.m.reads ∧ IntsAt w B x.wa x.m.writes
theorem XRd.below {w w' : World} {B B' : Nat} {x : X} (h : XRd w B x) (hb : Below B w w') (hB : B ≤ B') : XRd w' B' x := ⟨h.1.below hb hB, h.2.below hb hB⟩
theorem XOwn.rd {w : World} {H : Nat} {x : X} (h : XOwn w H x) : XRd w w.heap.size x := ⟨h.r.at, h.w.at⟩

theorem rSame_yes (w : World) {B : Nat} {ao bo : Option Addr} {cap dap : Nat} (xs : List Int) (h : IntsAt w B ao xs) (hu : IntsAt w B bo xs) (hB : B ≤ w.heap.size) : Calls Try.prog 19 #[.slice ao xs.length cap, .slice bo xs.length dap] w fun e w' => e = .returned (.bool true) ∧ Nu w w' :=
  (rSame_any w xs xs h hu hB).mono (fun e w' h => by simpa using h)

set_option maxHeartbeats 4000000 in
set_option maxRecDepth 40000 in
theorem rMove_any (w : World) (m : Mov) (ra : Option Addr) (rc : Nat) (wa : Option Addr) (wc : Nat) (ra' : Option Addr) (rc' : Nat) (wa' : Option Addr) (wc' : Nat) (h : XRd w w.heap.size ⟨m, ra, rc, wa, wc⟩) (h' : XRd w w.heap.size ⟨m, ra', rc', wa', wc'⟩) : Calls Try.prog 10 #[(X.mk m ra rc wa wc).val, (X.mk m ra' rc' wa' wc').val] w fun e w' => e = .returned (.bool true) ∧ Nu w w' := by
  have HX := hid h
  have HY := hid h'
  clear h h'
  obtain ⟨pr, ed, wt, we, to, bd, rs, ws, tu⟩ := m
  simp only [X.val, XRd] at *
  have HN : Hid (Nu w ((w.alloc (.cells #[.int .i64 pr, .int .i64 ed, .int .i64 wt, .int .i64 we, .string to, .int .i64 bd, .slice ra rs.length rc, .slice wa ws.length wc, .int .u64 tu] 44)).alloc (.cells #[.int .i64 pr, .int .i64 ed, .int .i64 wt, .int .i64 we, .string to, .int .i64 bd, .slice ra' rs.length rc', .slice wa' ws.length wc', .int .u64 tu] 44))) := mv0 (Mv.alloc _ _ _) (Mv.alloc _ _ _)
  have HA : Hid (((w.alloc (.cells #[.int .i64 pr, .int .i64 ed, .int .i64 wt, .int .i64 we, .string to, .int .i64 bd, .slice ra rs.length rc, .slice wa ws.length wc, .int .u64 tu] 44)).alloc (.cells #[.int .i64 pr, .int .i64 ed, .int .i64 wt, .int .i64 we, .string to, .int .i64 bd, .slice ra' rs.length rc', .slice wa' ws.length wc', .int .u64 tu] 44)).heap[w.heap.size]? = some (.cells #[.int .i64 pr, .int .i64 ed, .int .i64 wt, .int .i64 we, .string to, .int .i64 bd, .slice ra rs.length rc, .slice wa ws.length wc, .int .u64 tu] 44 (0, 0))) := (Mv.alloc (fun _ => False) _ _).heap (heap_alloc_new w _) id
  have HB : Hid (((w.alloc (.cells #[.int .i64 pr, .int .i64 ed, .int .i64 wt, .int .i64 we, .string to, .int .i64 bd, .slice ra rs.length rc, .slice wa ws.length wc, .int .u64 tu] 44)).alloc (.cells #[.int .i64 pr, .int .i64 ed, .int .i64 wt, .int .i64 we, .string to, .int .i64 bd, .slice ra' rs.length rc', .slice wa' ws.length wc', .int .u64 tu] 44)).heap[w.heap.size + 1]? = some (.cells #[.int .i64 pr, .int .i64 ed, .int .i64 wt, .int .i64 we, .string to, .int .i64 bd, .slice ra' rs.length rc', .slice wa' ws.length wc', .int .u64 tu] 44 (0, 0))) := by
    have := heap_alloc_new (w.alloc (.cells #[.int .i64 pr, .int .i64 ed, .int .i64 wt, .int .i64 we, .string to, .int .i64 bd, .slice ra rs.length rc, .slice wa ws.length wc, .int .u64 tu] 44)) (.cells #[.int .i64 pr, .int .i64 ed, .int .i64 wt, .int .i64 we, .string to, .int .i64 bd, .slice ra' rs.length rc', .slice wa' ws.length wc', .int .u64 tu] 44)
    rwa [World.size_alloc] at this
  go_enter Try.func10, Try.ntmps10
  go_upto_region 1 with fail
  generalize (w.alloc (.cells #[.int .i64 pr, .int .i64 ed, .int .i64 wt, .int .i64 we, .string to, .int .i64 bd, .slice ra rs.length rc, .slice wa ws.length wc, .int .u64 tu] 44)).alloc (.cells #[.int .i64 pr, .int .i64 ed, .int .i64 wt, .int .i64 we, .string to, .int .i64 bd, .slice ra' rs.length rc', .slice wa' ws.length wc', .int .u64 tu] 44) = w1 at *
  obtain ⟨p0, p1, p2, p3, p4, p5, p6, p7, p8⟩ := cells9 HA.out
  obtain ⟨q0, q1, q2, q3, q4, q5, q6, q7, q8⟩ := cells9 HB.out
  clear p0 p1 p2 p3 p4 p5 p7 p8 q0 q1 q2 q3 q4 q5 q7 q8
  go_upto_region 2 with (go_at_call 19; refine (rSame_yes _ rs (HX.out.1.below HN.out.nu_below HN.out.size) (HY.out.1.below HN.out.nu_below HN.out.size) (Nat.le_refl _)).mono ?_; rintro e w2 ⟨rfl, hn2⟩; have HN2 := hid (mv0 HN.out hn2); have HA2 := hid (hn2.heap HA.out id); have HB2 := hid (hn2.heap HB.out id); clear hn2)
  clear p6 q6
  obtain ⟨p0, p1, p2, p3, p4, p5, p6, p7, p8⟩ := cells9 HA2.out
  obtain ⟨q0, q1, q2, q3, q4, q5, q6, q7, q8⟩ := cells9 HB2.out
  clear p0 p1 p2 p3 p4 p5 p6 p8 q0 q1 q2 q3 q4 q5 q6 q8
  go_upto_region 3 with (go_at_call 19; refine (rSame_yes _ ws (HX.out.2.below HN2.out.nu_below HN2.out.size) (HY.out.2.below HN2.out.nu_below HN2.out.size) (Nat.le_refl _)).mono ?_; rintro e w3 ⟨rfl, hn3⟩; have HN3 := hid (mv0 HN2.out hn3); have HA3 := hid (hn3.heap HA2.out id); have HB3 := hid (hn3.heap HB2.out id); clear hn3)
  clear p7 q7
  obtain ⟨p0, p1, p2, p3, p4, p5, p6, p7, p8⟩ := cells9 HA3.out
  obtain ⟨q0, q1, q2, q3, q4, q5, q6, q7, q8⟩ := cells9 HB3.out
  clear p6 p7 q6 q7
  go_wp2
  go_ret
  exact ⟨rfl, HN3.out⟩

section
variable {o : Oper} {a : Act} {w : World} {K : Act → World → Prop} {Q : Exit → Act → World → Prop} {d : Nat}
theorem lk_idxMv {s r g f n i c : Nat} (hi : i < n) (hd : o.dst = some d) (ho : o.op = .indexAddr 37 (.tmp s) (.tmp r)) (hs : a.tmps[s]? = some (.slice (some ⟨g, f, none⟩) n c)) (hr : a.tmps[r]? = some (.int .i64 (i : Int))) (hK : ∀ w', Nu w w' → K ⟨a.tmps.setIfInBounds d (.pointer (some ⟨g, f + i * 9, none⟩)), a.defers⟩ w') : Oper.wp Try.prog o a w K Q := by
  have hes : a.eval (.tmp s) = .slice (some ⟨g, f, none⟩) n c := by simp [Act.eval, hs]
  have her : a.eval (.tmp r) = .int .i64 (i : Int) := by simp [Act.eval, hr]
  have hi' : (i : Int) < (n : Int) := by omega
  unfold Oper.wp execOp
  simp only [ho, hd]
  go_simp
  exact hK w (Mv.refl _ _)
set_option maxHeartbeats 2000000 in
theorem lk_loadMv {s b f : Nat} {x : X} (hd : o.dst = some d) (ho : o.op = .load 44 (.tmp s)) (hs : a.tmps[s]? = some (.pointer (some ⟨b, f, none⟩))) (h : XAt w b f x) (hK : ∀ w', Nu w w' → K ⟨a.tmps.setIfInBounds d x.val, a.defers⟩ w') : Oper.wp Try.prog o a w K Q := by
  have he : a.eval (.tmp s) = .pointer (some ⟨b, f, none⟩) := by simp [Act.eval, hs]
  obtain ⟨c0, c1, c2, c3, c4, c5, c6, c7, c8⟩ := h
  unfold Oper.wp execOp
  simp only [ho, he, hd]
  go_simp
  exact hK w (Mv.refl _ _)
theorem lk_rMove {s r : Nat} {x y : X} (hd : o.dst = some d) (ho : o.op = .call { callee := .value (.func 10), args := #[.tmp s, .tmp r], argTypes := #[44, 44] }) (hs : a.tmps[s]? = some x.val) (hr : a.tmps[r]? = some y.val) (hm : x.m = y.m) (hx : XRd w w.heap.size x) (hy : XRd w w.heap.size y)
    (hK : ∀ w', Nu w w' → K ⟨a.tmps.setIfInBounds d (.bool true), a.defers⟩ w') : Oper.wp Try.prog o a w K Q := by
  have he : a.eval (.tmp s) = x.val := by simp [Act.eval, hs]
  have he' : a.eval (.tmp r) = y.val := by simp [Act.eval, hr]
  obtain ⟨m, ra, rc, wa, wc⟩ := x
  obtain ⟨m', ra', rc', wa', wc'⟩ := y
  obtain rfl : m = m' := hm
  have := rMove_any w m ra rc wa wc ra' rc' wa' wc' hx hy
  unfold Oper.wp execOp
  simp only [ho, hd]
  go_simp
  refine Calls.mono this ?_
  rintro e w' ⟨rfl, hn⟩
  exact hK w' hn
end

def pickN (c n : Int) : Int := (if c < 0 then -(c + 1) else c) % n
theorem pickN_lo (c : Int) {n : Int} (h : 0 < n) : 0 ≤ pickN c n := Int.emod_nonneg _ (by omega)
theorem pickN_hi (c : Int) {n : Int} (h : 0 < n) : pickN c n < n := Int.emod_lt_of_pos _ h
theorem y_ret {a b : Int} (h : a = b) : Ending.returned (Value.int .i64 a) = Ending.returned (Value.int .i64 b) := by rw [h]

set_option maxHeartbeats 400000 in
theorem pick_any (c n : Int) (w : World) (h0 : -9223372036854775808 ≤ c) (h1 : c ≤ 9223372036854775807) (hn : 0 < n) (hn1 : n ≤ 10000) :
    Calls Try.prog 5 #[.int .i64 c, .int .i64 n] w fun e w' => e = .returned (.int .i64 (pickN c n)) ∧ w' = w := by
  have hz : (n == 0) = false := by simp; omega
  by_cases a : c < 0
  · have e : pickN c n = (-(c + 1)) % n := by unfold pickN; rw [if_pos a]
    have HE : Hid (pickN c n = (-(c + 1)) % n) := e
    clear e
    go_enter Try.func5, Try.ntmps5
    go_wp2
    go_ret
    exact ⟨y_ret (by rw [HE.out, ← Int.tmod_eq_emod_of_nonneg (by omega : 0 ≤ -(c + 1)), Int.neg_tmod]), rfl⟩
  · have e : pickN c n = c % n := by unfold pickN; rw [if_neg a]
    have HE : Hid (pickN c n = c % n) := e
    clear e
    have a' : 0 ≤ c := by omega
    go_enter Try.func5, Try.ntmps5
    go_wp2
    go_ret
    exact ⟨y_ret HE.out.symm, rfl⟩


end Go.Proofs.Ytcpgpiokjghcnaa
/-
  FairDrops' own walk: what it is told of moves, plain.
-/
set_option linter.unusedVariables false
set_option linter.unusedSimpArgs false
namespace Go.Proofs.Ytcpgpiokjghcnaa
open Go.RowKit

theorem fair_map {K q : Nat} (hq : q < K) (ac : Bool) (l : List Mov) : ∃ τ : Mov → Nat, (∀ m, τ m < K ∧ (τ m = q ∨ τ m = q + 1 ∨ τ m = 0)) ∧ fairMoves K q ac l = l.map fun m => numMv (nst (τ m)) m := by
  have hn : ∀ j, j < K → nextK K j < K ∧ (nextK K j = j + 1 ∨ nextK K j = 0) := fun j hj => by
    refine ⟨Nat.mod_lt _ (by omega), ?_⟩
    unfold nextK
    rcases Nat.lt_or_ge (j + 1) K with h | h
    · exact .inl (Nat.mod_eq_of_lt h)
    · obtain rfl : j + 1 = K := by omega
      exact .inr (Nat.mod_self _)
  unfold fairMoves
  split
  · rename_i h0
    refine ⟨fun _ => if ac then nextK K 0 else 0, fun m => ?_, rfl⟩
    subst h0
    split
    · exact ⟨(hn 0 hq).1, (hn 0 hq).2.elim (fun h => .inr (.inl h)) (fun h => .inr (.inr h))⟩
    · exact ⟨hq, .inl rfl⟩
  · refine ⟨fun m => if movesIn m ((q : Int) - 1) || !(l.any fun x => movesIn x ((q : Int) - 1)) then nextK K q else q, fun m => ?_, rfl⟩
    simp only
    split
    · exact ⟨(hn q hq).1, (hn q hq).2.elim (fun h => .inr (.inl h)) (fun h => .inr (.inr h))⟩
    · exact ⟨hq, .inl rfl⟩

theorem pair_at {K q : Nat} (hq : q < K) {ac : Bool} {l : List Mov} {xs1 xs2 : List X} {N : Nat} (h1 : xs1.map X.m = (fairMoves K q ac l).take N) (h2 : xs2.map X.m = l.take N) :
    xs1.length = xs2.length ∧ ∀ j (a : j < xs1.length) (b : j < xs2.length), xs2[j].m ∈ l ∧ ∃ t, t < K ∧ (t = q ∨ t = q + 1 ∨ t = 0) ∧ xs1[j].m = numMv (nst t) xs2[j].m := by
  obtain ⟨τ, ht, he⟩ := fair_map hq ac l
  rw [he, ← List.map_take, ← h2, List.map_map] at h1
  have hl : xs1.length = xs2.length := by simpa using congrArg List.length h1
  refine ⟨hl, fun j a b => ⟨?_, τ xs2[j].m, (ht _).1, (ht _).2, ?_⟩⟩
  · have : xs2[j].m ∈ xs2.map X.m := List.mem_map_of_mem (List.getElem_mem b)
    rw [h2] at this
    exact List.mem_of_mem_take this
  · have h3 : (xs1.map X.m)[j]? = some xs1[j].m := by rw [List.getElem?_map, List.getElem?_eq_getElem a]; rfl
    rw [h1, List.getElem?_map, List.getElem?_eq_getElem b] at h3
    exact (Option.some.inj h3).symm

theorem fs0 (x0 : Int) (x1 x2 x3 : Bool) (w : World) : (Instr.field 41 (.agg #[.int .u64 x0, .bool x1, .bool x2, .bool x3]) 0).run Try.prog w = .ok (.int .u64 x0) w := by kernel_rfl
theorem fs1 (x0 : Int) (x1 x2 x3 : Bool) (w : World) : (Instr.field 41 (.agg #[.int .u64 x0, .bool x1, .bool x2, .bool x3]) 1).run Try.prog w = .ok (.bool x1) w := by kernel_rfl
theorem fs2 (x0 : Int) (x1 x2 x3 : Bool) (w : World) : (Instr.field 41 (.agg #[.int .u64 x0, .bool x1, .bool x2, .bool x3]) 2).run Try.prog w = .ok (.bool x2) w := by kernel_rfl

theorem splitF_nst {q : Nat} (hq : q < 100) (x : ByteArray) : splitF (nst q ++ x) = .tuple #[.int .i64 (q : Int), .string x, .bool true] := by
  have hw : wrap64 (q : Int) = (q : Int) := by
    unfold wrap64
    omega
  unfold splitF
  rw [apart_nst q (by omega)]
  simp only [hw]

theorem split_nst (w : World) {q : Nat} (hq : q < 100) (x : ByteArray) (hx : x.size ≤ 1000) : Calls Try.prog 8 #[.string (nst q ++ x)] w fun e w' => e = .returned (.tuple #[.int .i64 (q : Int), .string x, .bool true]) ∧ Nu w w' := by
  have h := fairSplit_any w (nst q ++ x) (by
    show _ ≤ _
    rw [size_app]
    have := nst_len (k := q) (by omega)
    omega)
  rwa [splitF_nst hq] at h

/-- Moves that can be read. -/
structure XsAt (w : World) (B : Nat) (ao : Option Addr) (xs : List X) : Prop where
  lim : (xs.length : Int) ≤ 100000000
  row : xs.length = 0 ∨ ∃ b off, ao = some ⟨b, off, none⟩ ∧ b < B ∧ ∀ i (h : i < xs.length), XAt w b (off + i * 9) xs[i]
  rd : ∀ x ∈ xs, XRd w B x
theorem XsAt.below {w w' : World} {B B' : Nat} {ao : Option Addr} {xs : List X} (h : XsAt w B ao xs) (hb : Below B w w') (hB : B ≤ B') : XsAt w' B' ao xs :=
  ⟨h.lim, h.row.imp id fun ⟨b, off, ha, hlt, hi⟩ => ⟨b, off, ha, Nat.lt_of_lt_of_le hlt hB, fun i hh => by
    obtain ⟨c0, c1, c2, c3, c4, c5, c6, c7, c8⟩ := hi i hh
    have k (i : Nat) {v : Value} (hc : w.cell? ⟨b, i, none⟩ = some v) : w'.cell? ⟨b, i, none⟩ = some v := (hb.cell (p := ⟨b, i, none⟩) hlt).trans hc
    exact ⟨k _ c0, k _ c1, k _ c2, k _ c3, k _ c4, k _ c5, k _ c6, k _ c7, k _ c8⟩⟩, fun x hx => (h.rd x hx).below hb hB⟩
theorem xs_own {w : World} {H : Nat} {vo : Option Addr} {vc : Nat} {xs : List X} (hr : w.ownsRow H 44 9 (.slice vo xs.length vc) xs.length (xflat xs)) (ho : ∀ x ∈ xs, XOwn w H x) (hl : (xs.length : Int) ≤ 100000000) : XsAt w w.heap.size vo xs := by
  refine ⟨hl, ?_, fun x hx => (ho x hx).rd⟩
  rcases hr.2 with ⟨hv, hn⟩ | ⟨g, cap, cur, hv, hb, hg, _⟩
  · exact .inl hn
  · simp only [Value.slice.injEq] at hv
    refine .inr ⟨g, 0, hv.1, lt_of_block hg, fun i hi => ?_⟩
    rw [Nat.zero_add]
    exact xrow_at hr (by rw [hv.1]; rfl) i hi

set_option maxHeartbeats 4000000 in

/-- Moves that all hands back. -/
structure Ms (w : World) (xs : List X) (vo : Option Addr) (vc : Nat) : Prop where
  at_ : XsAt w w.heap.size vo xs
theorem Ms.nu {w w' : World} {xs : List X} {vo : Option Addr} {vc : Nat} (h : Ms w xs vo vc) (hn : Nu w w') : Ms w' xs vo vc := ⟨h.at_.below hn.nu_below hn.size⟩

/-- What region 28 knows of. -/
def R28 (vo : Option Addr) (vc n j g f : Nat) (x y : X) : Nat → World → Value → Prop
  | 0, _, v => v = x.val
  | 1, _, v => v = .slice vo n vc
  | 2, _, v => v = .int .i64 (j : Int)
  | 3, _, v => v = .pointer (some ⟨g, f + j * 9, none⟩)
  | 4, _, v => v = y.val
  | 5, _, v => v = .bool true
  | 6, _, v => v = .bool false
  | _, _, v => v = undef
theorem R28.nu {vo : Option Addr} {vc n j g f : Nat} {x y : X} : ∀ (i : Nat) (w w' : World) (v : Value), Nu w w' → R28 vo vc n j g f x y i w v → R28 vo vc n j g f x y i w' v := by
  intro i w w' v _ h
  unfold R28 at h ⊢
  split <;> simp only at h <;> exact h
section
variable {o : Oper} {a : Act} {w : World} {K : Act → World → Prop} {Q : Exit → Act → World → Prop} {d : Nat}
theorem lk_notT {s : Nat} (hd : o.dst = some d) (ho : o.op = .unOp .not 4 (.tmp s)) (hs : a.tmps[s]? = some (.bool true)) (hK : ∀ w', Nu w w' → K ⟨a.tmps.setIfInBounds d (.bool false), a.defers⟩ w') : Oper.wp Try.prog o a w K Q := by
  have he : a.eval (.tmp s) = .bool true := by simp [Act.eval, hs]
  unfold Oper.wp execOp
  simp only [ho, hd]
  go_simp
  exact hK w (Mv.refl _ _)
end

/-- A move of a copy without its copy. -/
theorem numMv_bad {t : Nat} {m : Mov} (h : m.bad ≠ 0) : numMv (nst t) m = m := by unfold numMv; rw [if_neg h]
theorem numMv_good {t : Nat} {m : Mov} (h : m.bad = 0) : numMv (nst t) m = { m with to := nst t ++ m.to } := by unfold numMv; rw [if_pos h]

end Go.Proofs.Ytcpgpiokjghcnaa
