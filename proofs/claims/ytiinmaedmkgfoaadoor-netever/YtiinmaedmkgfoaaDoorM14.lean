/-
  NSame, NTwo, NGraph2, NAgain0, NAgain1, NNets.
-/
import Derived.BigQuiet
import Derived.Deep.QuietTactic
import Derived.Deep.RegionWith
import Derived.WalkKit
import Derived.WalkLawsBesides
import Derived.WalkSpells
import Derived.Test.YtiinmaedmkgfoaaDoorM2
import Derived.Test.YtiinmaedmkgfoaaDoorM6
import Derived.Test.YtiinmaedmkgfoaaDoorM8
/-
  Are two lists of numbers the same: what the reference's Same answers.
-/
namespace Go.Proofs.YtiinmaedmkgfoaaDoor
open Go.RowKit

def sameTo {α : Type} (ss us : List α) (i : Nat) : Prop := ∀ k (h : k < ss.length) (h' : k < us.length), k < i → ss[k] = us[k]
theorem sameTo_zero {α : Type} (ss us : List α) : sameTo ss us 0 := fun _ _ _ h => absurd h (Nat.not_lt_zero _)
theorem sameTo_succ {α : Type} {ss us : List α} {i : Nat} (hi : i < ss.length) (hu : i < us.length) (h : sameTo ss us i) (hs : ss[i] = us[i]) : sameTo ss us (i + 1) := fun k hk hk' hl => by
  rcases Nat.lt_or_ge k i with h1 | h1
  · exact h k hk hk' h1
  · obtain rfl : k = i := by omega
    exact hs
theorem sameTo_all {α : Type} {ss us : List α} (hl : ss.length = us.length) (h : sameTo ss us ss.length) : ss = us :=
  List.ext_getElem hl fun k h1 h2 => h k h1 h2 h1

theorem nu_drewN (w : World) (n : Nat) : Nu w (w.drewN n) := Mv.drewN _ w n

set_option maxHeartbeats 4000000 in
set_option maxRecDepth 20000 in
theorem rSame_any (w : World) {B : Nat} {ao bo : Option Addr} {cap dap : Nat} (xs ys : List Int) (h : IntsAt w B ao xs) (hu : IntsAt w B bo ys) (hB : B ≤ w.heap.size) :
    Calls Tryd.prog 46 #[.slice ao xs.length cap, .slice bo ys.length dap] w fun r w' => r = .returned (.bool (decide (xs = ys))) ∧ Nu w w' := by
  obtain ⟨A, hA⟩ : ∃ A, decide (xs = ys) = A := ⟨_, rfl⟩
  rw [hA]
  have HA : Hid (decide (xs = ys) = A) := hA
  have hlim := h.lim
  have hlim2 := hu.lim
  have HS : Hid (IntsAt w B ao xs) := h
  have HU : Hid (IntsAt w B bo ys) := hu
  clear h hu hA
  by_cases h2 : xs.length = ys.length
  case neg =>
    have HM : Hid (A = false) := HA.out.symm.trans (decide_eq_false (fun e => h2 (congrArg List.length e)))
    have h2' : ¬ (xs.length : Int) = (ys.length : Int) := by omega
    go_enter Tryd.func46, Tryd.ntmps46
    go_wp2
    go_ret
    exact ⟨by rw [HM.out]; rfl, Mv.refl _ _⟩
  have HL : Hid (xs.length = ys.length) := h2
  rw [← h2]
  clear h2
  go_enter Tryd.func46, Tryd.ntmps46
  go_wp2
  go_loopw [5] (fun iv wr => ∃ (i : Nat), i ≤ xs.length ∧ iv = .int .i64 (i : Int) ∧ Hid (sameTo xs ys i) ∧ Nu w wr)
    (fun iv _ => xs.length - (intOf iv).toNat)
  case atStart => exact ⟨0, Nat.zero_le _, rfl, sameTo_zero _ _, Mv.refl _ _⟩
  case round =>
    obtain ⟨i, hi, rfl, HI, hbr⟩ := hrel
    have HW : Hid (Nu w wr) := hbr
    have hbb := (hbr.nu_below).mono hB
    clear hbr
    rcases Nat.lt_or_ge i xs.length with hlt | hge
    · have hlt' : (i : Int) < (xs.length : Int) := by omega
      have hltu : i < ys.length := by have := HL.out; omega
      rcases (HS.out.below hbb (Nat.le_refl _)).row with h0 | ⟨b, off, rfl, hbB, hit⟩
      · omega
      rcases (HU.out.below hbb (Nat.le_refl _)).row with h0 | ⟨b', off', rfl, hbB', hit'⟩
      · have := HL.out; omega
      have hx := hit i hlt
      have hy := hit' i hltu
      have HT : Hid (i < xs.length ∧ i < ys.length) := ⟨hlt, hltu⟩
      obtain ⟨s, HE, c0⟩ : ∃ s, Hid (xs[i]'hlt = s) ∧ wr.cell? ⟨b, off + i, none⟩ = some (.int .i64 s) := ⟨_, rfl, hx⟩
      obtain ⟨u, HF, e0⟩ : ∃ s, Hid (ys[i]'hltu = s) ∧ wr.cell? ⟨b', off' + i, none⟩ = some (.int .i64 s) := ⟨_, rfl, hy⟩
      clear hx hit hy hit' hbb
      by_cases hsu : s = u
      · have HO : Hid (sameTo xs ys (i + 1)) := sameTo_succ HT.out.1 HT.out.2 HI.out (by rw [HE.out, HF.out]; exact hsu)
        rw [← hsu] at e0
        clear hsu
        go_wp2
        go_quiet (fail)
        go_wp2
        go_roundw
        case rel => exact ⟨i + 1, HT.out.1, by go_num, HO, mv0 HW.out (nu_drewN _ _)⟩
        case measure => have := HT.out.1; simp [intOf]; omega
      · have HN : Hid (A = false) := HA.out.symm.trans (decide_eq_false (fun e => hsu (by
          rw [← HE.out, ← HF.out]
          simp only [e])))
        go_wp2
        go_quiet (fail)
        go_wp2
        go_ret
        exact ⟨by rw [HN.out]; rfl, mv0 HW.out (nu_drewN _ _)⟩
    · obtain rfl : i = xs.length := by omega
      have HM : Hid (A = true) := HA.out.symm.trans (decide_eq_true (sameTo_all HL.out HI.out))
      go_wp2
      go_ret
      exact ⟨by rw [HM.out]; rfl, HW.out⟩

end Go.Proofs.YtiinmaedmkgfoaaDoor
/-
  The example's graph, as the statements make it.
-/
namespace Go.Proofs.YtiinmaedmkgfoaaDoor
open Go.RowKit

def twoNet : List Node := [⟨[⟨1, 1, 0, [], [], 0⟩, ⟨0, 0, 1, [], [], 0⟩], 5, false, false, false⟩, ⟨[], 0, true, false, false⟩]

theorem ints_nil (w : World) (B : Nat) : IntsV w B (.slice none 0 0) [] := ⟨none, 0, rfl, by decide, .inl rfl⟩

theorem two_at {w : World} {b g : Nat} (hb : w.heap[b]? = some (.cells #[.int .i64 1, .int .i64 1, .int .i64 0, .slice none 0 0, .slice none 0 0, .int .u64 0, .int .i64 0, .int .i64 0, .int .i64 1, .slice none 0 0, .slice none 0 0, .int .u64 0] 122 (0, 0)))
    (hg : w.heap[g]? = some (.cells #[.slice (some ⟨b, 0, none⟩) 2 2, .int .u64 5, .bool false, .bool false, .bool false, .slice none 0 0, .int .u64 0, .bool true, .bool false, .bool false] 125 (0, 0))) :
    NodesAt w w.heap.size (some ⟨g, 0, none⟩) twoNet := by
  have lb := lt_of_block hb
  have lg := lt_of_block hg
  refine ⟨by decide, .inr ⟨g, 0, rfl, lg, fun i hi => ?_⟩⟩
  have c := cell_blk hg
  have d := cell_blk hb
  match i, hi with
  | 0, _ =>
    refine ⟨⟨_, c 0, some ⟨b, 0, none⟩, 2, rfl, (show (2 : Int) ≤ 17592186044416 by decide), .inr ⟨b, 0, rfl, lb, fun k hk => ?_⟩⟩, c 1, c 2, c 3, c 4⟩
    match k, hk with
    | 0, _ => exact ⟨d 0, d 1, d 2, ⟨_, d 3, ints_nil _ _⟩, ⟨_, d 4, ints_nil _ _⟩, d 5⟩
    | 1, _ => exact ⟨d 6, d 7, d 8, ⟨_, d 9, ints_nil _ _⟩, ⟨_, d 10, ints_nil _ _⟩, d 11⟩
  | 1, _ => exact ⟨⟨_, c 5, none, 0, rfl, (show (0 : Int) ≤ 17592186044416 by decide), .inl rfl⟩, c 6, c 7, c 8, c 9⟩

set_option maxHeartbeats 4000000 in
set_option maxRecDepth 20000 in
theorem two_any (w : World) : Calls Tryd.prog 22 #[] w fun e w' => ∃ ao cap, e = .returned (.agg #[.slice ao 2 cap]) ∧ NodesAt w' w'.heap.size ao twoNet ∧ Nu w w' := by
  go_enter Tryd.func22, Tryd.ntmps22
  go_wp2
  refine bodyPost_ret (v := .agg #[.slice (some ⟨w.heap.size + 1 + 1, 0, none⟩) 2 2]) (by simp [results, Tryd.results22, go_sem]) rfl ⟨_, _, rfl, ?_, mv0 (mv0 (Mv.alloc _ _ _) (Mv.alloc _ _ _)) (Mv.alloc _ _ _)⟩
  refine two_at (b := w.heap.size + 1) ?_ ?_
  · refine (Mv.alloc (fun _ => False) _ _).heap ?_ id
    have := heap_alloc_new (w.alloc (Obj.cells #[Value.slice (some { block := w.heap.size + 1 + 1, off := 0 }) 2 2] 46)) (Obj.cells #[.int .i64 1, .int .i64 1, .int .i64 0, .slice none 0 0, .slice none 0 0, .int .u64 0, .int .i64 0, .int .i64 0, .int .i64 1, .slice none 0 0, .slice none 0 0, .int .u64 0] 122)
    rw [World.size_alloc] at this
    exact this
  · have := heap_alloc_new ((w.alloc (Obj.cells #[Value.slice (some { block := w.heap.size + 1 + 1, off := 0 }) 2 2] 46)).alloc (Obj.cells #[.int .i64 1, .int .i64 1, .int .i64 0, .slice none 0 0, .slice none 0 0, .int .u64 0, .int .i64 0, .int .i64 0, .int .i64 1, .slice none 0 0, .slice none 0 0, .int .u64 0] 122))
      (Obj.cells #[.slice (some ⟨w.heap.size + 1, 0, none⟩) 2 2, .int .u64 5, .bool false, .bool false, .bool false, .slice none 0 0, .int .u64 0, .bool true, .bool false, .bool false] 125)
    simp only [World.size_alloc] at this
    exact this

end Go.Proofs.YtiinmaedmkgfoaaDoor
/-
  States of graphs, and what is reached in the example's graph: plain data.
-/
namespace Go.Proofs.YtiinmaedmkgfoaaDoor

theorem txt_inj {a b : List UInt8} (h : txt a = txt b) : a = b := by
  have h1 := congrArg (fun x : ByteArray => x.data.toList) h
  simpa [txt] using h1
theorem nst_inj {k m : Nat} (hk : k < 18446744073709551616) (hm : m < 18446744073709551616) (h : nst k = nst m) : k = m :=
  enc_apart k m hk hm (by rw [← txt_inj h, List.take_length])

theorem nodeNo_some {size : Nat} {st : ByteArray} {k : Nat} (h : nodeNo size st = some k) : k < size ∧ nst k = st :=
  ⟨by have := List.mem_of_find?_eq_some h; simpa using this, by have := List.find?_some h; simpa using this⟩
theorem nodeNo_nst {size k : Nat} (hk : k < size) (hs : size ≤ 18446744073709551616) : nodeNo size (nst k) = some k := by
  cases h : nodeNo size (nst k) with
  | none =>
    have := List.find?_eq_none.1 h k (by simpa using hk)
    simp at this
  | some j =>
    obtain ⟨h1, h2⟩ := nodeNo_some h
    rw [nst_inj (by omega) (by omega) h2]
theorem nodeNo_none {size : Nat} {st : ByteArray} (h : ∀ k, k < size → nst k ≠ st) : nodeNo size st = none := by
  cases h' : nodeNo size st with
  | none => rfl
  | some j =>
    obtain ⟨h1, h2⟩ := nodeNo_some h'
    exact absurd h2 (h j h1)

theorem graph_next {ns : List Node} {k : Nat} {x : Node} (hk : ns[k]? = some x) (hs : ns.length ≤ 18446744073709551616) : (graphSem ns).next (nst k) = movsOf x.arcs := by
  have hl : k < ns.length := (List.getElem?_eq_some_iff.1 hk).1
  simp only [graphSem, nodeNo_nst hl hs, Option.bind_some, hk]
theorem graph_look {ns : List Node} {k : Nat} {x : Node} (hk : ns[k]? = some x) (hs : ns.length ≤ 18446744073709551616) : (graphSem ns).look (nst k) = ⟨x.props, x.en, x.pr, x.ac⟩ := by
  have hl : k < ns.length := (List.getElem?_eq_some_iff.1 hk).1
  simp only [graphSem, nodeNo_nst hl hs, Option.bind_some, hk]

theorem nst_zero : nst 0 = ⟨#[0]⟩ := by unfold nst; rw [encU_small (by decide)]; rfl
theorem nst_one : nst 1 = ⟨#[1]⟩ := by unfold nst; rw [encU_small (by decide)]; rfl

theorem two_may : mayN twoNet = true := by decide

theorem two_explored2 : explored (graphSem twoNet) 2 = some (twoNet, [nst 0, nst 1]) := by
  have h01 : nst 0 ≠ nst 1 := fun h => by have := nst_inj (by decide) (by decide) h; omega
  have n0 : (graphSem twoNet).next (nst 0) = [⟨1, 0, -1, -1, nst 1, 0, [], [], 0⟩, ⟨0, 1, -1, -1, ⟨#[]⟩, 1, [], [], 0⟩] := graph_next (x := ⟨[⟨1, 1, 0, [], [], 0⟩, ⟨0, 0, 1, [], [], 0⟩], 5, false, false, false⟩) rfl (by decide)
  have n1 : (graphSem twoNet).next (nst 1) = [] := graph_next (x := ⟨[], 0, true, false, false⟩) rfl (by decide)
  have l0 := graph_look (ns := twoNet) (k := 0) rfl (by decide)
  have l1 := graph_look (ns := twoNet) (k := 1) rfl (by decide)
  have p0 : plc [nst 0] (nst 1) = none := by rw [plc_none]; simpa using fun h => h01 h.symm
  have s0 : oneState (graphSem twoNet) 2 ⟨[], [nst 0], 0⟩ (nst 0) = some ⟨[⟨[⟨1, 1, 0, [], [], 0⟩, ⟨0, 0, 1, [], [], 0⟩], 5, false, false, false⟩], [nst 0, nst 1], 2⟩ := by
    simp [oneState, n0, l0, allMoves, oneMove, p0, arcOf, nodeOf]
  have s1 : oneState (graphSem twoNet) 2 ⟨[⟨[⟨1, 1, 0, [], [], 0⟩, ⟨0, 0, 1, [], [], 0⟩], 5, false, false, false⟩], [nst 0, nst 1], 2⟩ (nst 1) = some ⟨twoNet, [nst 0, nst 1], 2⟩ := by
    unfold oneState
    rw [n1, l1]
    rfl
  have hb : (graphSem twoNet).begin = nst 0 := rfl
  unfold explored
  rw [hb, explore_step (st := nst 0) rfl, s0, Option.bind_some, explore_step (st := nst 1) rfl, s1]
  rfl

theorem two_explored1 : explored (graphSem twoNet) 1 = none := by
  have h01 : nst 0 ≠ nst 1 := fun h => by have := nst_inj (by decide) (by decide) h; omega
  have n0 : (graphSem twoNet).next (nst 0) = [⟨1, 0, -1, -1, nst 1, 0, [], [], 0⟩, ⟨0, 1, -1, -1, ⟨#[]⟩, 1, [], [], 0⟩] := graph_next (x := ⟨[⟨1, 1, 0, [], [], 0⟩, ⟨0, 0, 1, [], [], 0⟩], 5, false, false, false⟩) rfl (by decide)
  have p0 : plc [nst 0] (nst 1) = none := by rw [plc_none]; simpa using fun h => h01 h.symm
  have s0 : oneState (graphSem twoNet) 1 ⟨[], [nst 0], 0⟩ (nst 0) = none := by
    simp [oneState, n0, allMoves, oneMove, p0]
  have hb : (graphSem twoNet).begin = nst 0 := rfl
  unfold explored
  rw [hb, explore_step (st := nst 0) rfl, s0]
  rfl

theorem encU_short (n : Nat) (h : n < 18446744073709551616) : (nst n).size ≤ 10 := by
  have := encU_ten h
  show (encU n).toArray.size ≤ 10
  simpa using this

end Go.Proofs.YtiinmaedmkgfoaaDoor
/-
  A graph that was explored, explored again, is itself: plain data, of any system.
-/
namespace Go.Proofs.YtiinmaedmkgfoaaDoor

/-- The first states of a graph. -/
def rangeS (c : Nat) : List ByteArray := (List.range c).map nst
theorem rangeS_len (c : Nat) : (rangeS c).length = c := by simp [rangeS]
theorem rangeS_succ (c : Nat) : rangeS (c + 1) = rangeS c ++ [nst c] := by simp [rangeS, List.range_succ]
theorem rangeS_get {c i : Nat} (h : i < c) : (rangeS c)[i]? = some (nst i) := by simp [rangeS, h]
theorem rangeS_none {c i : Nat} (h : c ≤ i) : (rangeS c)[i]? = none := by simp [rangeS, h]
theorem rangeS_not {c : Nat} (h : c < 18446744073709551616) : nst c ∉ rangeS c := by
  intro hm
  simp only [rangeS, List.mem_map, List.mem_range] at hm
  obtain ⟨k, hk, he⟩ := hm
  have := nst_inj (by omega) h he
  omega
theorem plc_rangeS {c t : Nat} (hc : c ≤ 18446744073709551616) (ht : t < c) : plc (rangeS c) (nst t) = some t := by
  induction c with
  | zero => omega
  | succ c ih =>
    rw [rangeS_succ]
    by_cases h : t = c
    · subst h
      have := plc_new (rangeS_not (c := t) (by omega))
      rwa [rangeS_len] at this
    · exact plc_append (ih (by omega) (by omega))
theorem plc_rangeS_none {c : Nat} (hc : c < 18446744073709551616) : plc (rangeS c) (nst c) = none := plc_none.2 (rangeS_not hc)

/-- A move bs an arc has it. -/
structure Like (m : Mov) (a : Arc) : Prop where
  proc : m.proc = a.proc
  bad : m.bad = a.bad
  reads : m.reads = a.reads
  writes : m.writes = a.writes
  turns : m.turns = a.turns
  to : a.bad = 0 → m.to = nst a.to.toNat

def Likes : List Mov → List Arc → Prop
  | [], [] => True
  | m :: r, a :: s => Like m a ∧ Likes r s
  | _, _ => False

theorem like_movOf (k : Nat) (a : Arc) : Like (movOf k a) a := ⟨rfl, rfl, rfl, rfl, rfl, fun h => by simp [movOf, h]⟩
theorem likes_from : ∀ (bs : List Arc) (s : Nat), Likes ((List.range' s bs.length).zipWith movOf bs) bs
  | [], _ => by simp [Likes]
  | a :: r, s => by
    rw [List.length_cons, List.range'_succ, List.zipWith_cons_cons]
    exact ⟨like_movOf s a, likes_from r (s + 1)⟩
theorem likes_movsOf (bs : List Arc) : Likes (movsOf bs) bs := by
  unfold movsOf
  rw [List.range_eq_range']
  exact likes_from bs 0

/-- What is asked of an arc of a state that is explored. -/
structure Fits (m : Mov) (a : Arc) (c : Nat) : Prop where
  proc : a.proc = m.proc
  bad : a.bad = m.bad
  reads : a.reads = m.reads
  writes : a.writes = m.writes
  turns : a.turns = m.turns
  lo : 0 ≤ a.to
  hi : a.bad = 0 → a.to < c
  no : a.bad ≠ 0 → a.to = 0

theorem one_sim {most L : Nat} {u u' : Und} {m : Mov} (h : oneMove most u m = some u') (hL : u'.states.length ≤ L) (h64 : L < 18446744073709551616) :
    ∃ a, u'.arcs = u.arcs ++ [a] ∧ Fits m a u'.states.length ∧ ∀ m', Like m' a → ∀ A, oneMove L ⟨rangeS u.states.length, u.cnt, A⟩ m' = some ⟨rangeS u'.states.length, u'.cnt, A ++ [a]⟩ := by
  have harc : ∀ (k : Nat) m', Like m' (arcOf m k) → arcOf m' k = arcOf m k := fun k m' hl => by
    have h1 := hl.proc; have h2 := hl.bad; have h3 := hl.reads; have h4 := hl.writes; have h5 := hl.turns
    simp only [arcOf] at h1 h2 h3 h4 h5 ⊢
    rw [h1, h2, h3, h4, h5]
  unfold oneMove at h
  by_cases hb : m.bad = 0
  · rw [if_pos hb] at h
    cases hp : plc u.states m.to with
    | some k =>
      rw [hp] at h
      simp only at h
      by_cases hc : 262144 < u.cnt + 1
      · rw [if_pos hc] at h; cases h
      · rw [if_neg hc] at h
        cases h
        have hk := (plc_some hp).2
        refine ⟨arcOf m k, rfl, ⟨rfl, rfl, rfl, rfl, rfl, Int.natCast_nonneg _, fun _ => by simp only [arcOf]; omega, fun hn => absurd hb hn⟩, fun m' hl A => ?_⟩
        have hb' : m'.bad = 0 := by rw [hl.bad]; exact hb
        have hto : m'.to = nst k := by rw [hl.to hb]; rfl
        simp only at hL
        unfold oneMove
        simp only [hb', if_true, hto, plc_rangeS (show u.states.length ≤ 18446744073709551616 by omega) hk, if_neg hc, harc k m' hl]
    | none =>
      rw [hp] at h
      simp only at h
      by_cases hm : u.states.length = most
      · rw [if_pos hm] at h; cases h
      · rw [if_neg hm] at h
        by_cases hc : 262144 < u.cnt + 1
        · rw [if_pos hc] at h; cases h
        · rw [if_neg hc] at h
          cases h
          simp only [List.length_append, List.length_cons, List.length_nil, Nat.zero_add] at hL ⊢
          refine ⟨arcOf m u.states.length, rfl, ⟨rfl, rfl, rfl, rfl, rfl, Int.natCast_nonneg _, fun _ => by simp only [arcOf]; omega, fun hn => absurd hb hn⟩, fun m' hl A => ?_⟩
          have hb' : m'.bad = 0 := by rw [hl.bad]; exact hb
          have hto : m'.to = nst u.states.length := by rw [hl.to hb]; rfl
          have hne : ¬ u.states.length = L := by omega
          unfold oneMove
          simp only [hb', if_true, hto, plc_rangeS_none (show u.states.length < 18446744073709551616 by omega), rangeS_len, if_neg hne, if_neg hc, harc _ m' hl]
          rw [rangeS_succ]
  · rw [if_neg hb] at h
    by_cases hc : 262144 < u.cnt + 1
    · rw [if_pos hc] at h; cases h
    · rw [if_neg hc] at h
      cases h
      refine ⟨arcOf m 0, rfl, ⟨rfl, rfl, rfl, rfl, rfl, Int.natCast_nonneg _, fun hn => absurd hn hb, fun _ => rfl⟩, fun m' hl A => ?_⟩
      have hb' : ¬ m'.bad = 0 := by rw [hl.bad]; exact hb
      have ha := harc 0 m' hl
      unfold oneMove
      simp only [if_neg hb', if_neg hc]
      rw [ha]

/-- Arcs fit their moves. -/
def FitsAll : List Mov → List Arc → Nat → Prop
  | [], [], _ => True
  | m :: r, a :: s, c => Fits m a c ∧ FitsAll r s c
  | _, _, _ => False
theorem Fits.up {m : Mov} {a : Arc} {c d : Nat} (h : Fits m a c) (hd : c ≤ d) : Fits m a d := ⟨h.proc, h.bad, h.reads, h.writes, h.turns, h.lo, fun hb => by have := h.hi hb; omega, h.no⟩
theorem FitsAll.up : ∀ {ms : List Mov} {bs : List Arc} {c d : Nat}, FitsAll ms bs c → c ≤ d → FitsAll ms bs d
  | [], [], _, _, _, _ => trivial
  | _ :: _, _ :: _, _, _, h, hd => ⟨h.1.up hd, FitsAll.up h.2 hd⟩

theorem all_sim {most L : Nat} (h64 : L < 18446744073709551616) : ∀ {l : List Mov} {u u' : Und}, allMoves most u l = some u' → u.states.length ≤ most → u'.states.length ≤ L →
    ∃ bs, u'.arcs = u.arcs ++ bs ∧ FitsAll l bs u'.states.length ∧ ∀ ms', Likes ms' bs → ∀ A, allMoves L ⟨rangeS u.states.length, u.cnt, A⟩ ms' = some ⟨rangeS u'.states.length, u'.cnt, A ++ bs⟩
  | [], u, u', h, _, hL => by
    cases h
    refine ⟨[], by simp, trivial, fun ms' hl A => ?_⟩
    cases ms' with
    | nil => simp [allMoves]
    | cons _ _ => exact hl.elim
  | m :: r, u, u', h, hu, hL => by
    obtain ⟨v, h1, h2⟩ := Option.bind_eq_some_iff.1 h
    obtain ⟨a1, a2, _⟩ := oneMove_len h1 hu
    obtain ⟨_, b2, _⟩ := allMoves_len h2 a1
    have hvL : v.states.length ≤ L := Nat.le_trans b2.length_le hL
    obtain ⟨a, e1, f1, s1⟩ := one_sim h1 hvL h64
    obtain ⟨bs, e2, f2, s2⟩ := all_sim h64 h2 a1 hL
    refine ⟨a :: bs, by rw [e2, e1]; simp, ⟨f1.up b2.length_le, f2⟩, fun ms' hl A => ?_⟩
    cases ms' with
    | nil => exact hl.elim
    | cons m' r' =>
      rw [allMoves, s1 m' hl.1 A, Option.bind_some, s2 r' hl.2 (A ++ [a])]
      simp

theorem state_sim {M : Sem} {most L : Nat} (h64 : L < 18446744073709551616) {x y : Expl} {st : ByteArray} (h : oneState M most x st = some y) (hx : x.states.length ≤ most) (hL : y.states.length ≤ L) :
    ∃ nd, y.nodes = x.nodes ++ [nd] ∧ FitsAll (M.next st) nd.arcs y.states.length ∧ ∀ M' : Sem, ∀ st', M'.next st' = movsOf nd.arcs → M'.look st' = ⟨nd.props, nd.en, nd.pr, nd.ac⟩ →
      oneState M' L ⟨x.nodes, rangeS x.states.length, x.cnt⟩ st' = some ⟨y.nodes, rangeS y.states.length, y.cnt⟩ := by
  obtain ⟨u, hu, rfl⟩ := Option.map_eq_some_iff.1 h
  obtain ⟨bs, e, f, s⟩ := all_sim h64 hu hx hL
  simp only [List.nil_append] at e
  refine ⟨nodeOf (M.look st) u.arcs, rfl, by rw [e] at *; exact f, fun M' st' hn hlk => ?_⟩
  have := s (movsOf bs) (likes_movsOf bs) []
  unfold oneState
  simp only [nodeOf, e] at hn hlk ⊢
  rw [hn, this, hlk]
  simp

theorem explore_len {M : Sem} {most : Nat} : ∀ {f : Nat} {x z : Expl}, explore M most f x = some z → x.states.length ≤ most → z.states.length ≤ most ∧ x.states <+: z.states ∧ x.nodes <+: z.nodes
  | 0, x, z, h, hx => by cases h; exact ⟨hx, List.prefix_refl _, List.prefix_refl _⟩
  | f + 1, x, z, h, hx => by
    cases hs : x.states[x.nodes.length]? with
    | none => rw [explore_end hs] at h; cases h; exact ⟨hx, List.prefix_refl _, List.prefix_refl _⟩
    | some st =>
      rw [explore_step hs] at h
      obtain ⟨y, h1, h2⟩ := Option.bind_eq_some_iff.1 h
      obtain ⟨u, hu, rfl⟩ := Option.map_eq_some_iff.1 h1
      obtain ⟨a, b, _⟩ := allMoves_len hu hx
      obtain ⟨c, d, e⟩ := explore_len h2 a
      exact ⟨c, b.trans d, (List.prefix_append _ _).trans e⟩

/-- All that is met is gone over. -/
theorem explore_whole {M : Sem} {most : Nat} : ∀ {f : Nat} {x z : Expl}, explore M most f x = some z → x.states.length ≤ most → x.nodes.length ≤ x.states.length → most ≤ x.nodes.length + f → z.nodes.length = z.states.length
  | 0, x, z, h, hx, hn, hf => by cases h; omega
  | f + 1, x, z, h, hx, hn, hf => by
    cases hs : x.states[x.nodes.length]? with
    | none =>
      rw [explore_end hs] at h
      cases h
      have := List.getElem?_eq_none_iff.1 hs
      omega
    | some st =>
      rw [explore_step hs] at h
      obtain ⟨y, h1, h2⟩ := Option.bind_eq_some_iff.1 h
      obtain ⟨a, b, c⟩ := oneState_len h1 hx
      have hlt := (List.getElem?_eq_some_iff.1 hs).1
      exact explore_whole h2 a (by have := b.length_le; omega) (by omega)

theorem explore_sim {M : Sem} {most : Nat} {z : Expl} (h64 : z.states.length < 18446744073709551616) (hz : z.nodes.length = z.states.length) : ∀ {f f' : Nat} {x : Expl}, explore M most f x = some z → x.states.length ≤ most → x.nodes.length ≤ x.states.length → z.states.length ≤ x.nodes.length + f' →
    explore (graphSem z.nodes) z.states.length f' ⟨x.nodes, rangeS x.states.length, x.cnt⟩ = some ⟨z.nodes, rangeS z.states.length, z.cnt⟩
  | 0, f', x, h, hx, hn, hf => by
    cases h
    exact explore_end (show (rangeS z.states.length)[z.nodes.length]? = none from rangeS_none (by omega))
  | f + 1, f', x, h, hx, hn, hf => by
    cases hs : x.states[x.nodes.length]? with
    | none =>
      rw [explore_end hs] at h
      cases h
      exact explore_end (show (rangeS z.states.length)[z.nodes.length]? = none from rangeS_none (by omega))
    | some st =>
      rw [explore_step hs] at h
      obtain ⟨y, h1, h2⟩ := Option.bind_eq_some_iff.1 h
      obtain ⟨a, b, c⟩ := oneState_len h1 hx
      have hlt := (List.getElem?_eq_some_iff.1 hs).1
      obtain ⟨_, d, e⟩ := explore_len h2 a
      have hbl := b.length_le
      have hdl := d.length_le
      obtain ⟨f'', rfl⟩ : ∃ k, f' = k + 1 := ⟨f' - 1, by omega⟩
      obtain ⟨nd, hy, _, hsim⟩ := state_sim (L := z.states.length) h64 h1 hx hdl
      have hnd : z.nodes[x.nodes.length]? = some nd := by
        obtain ⟨t, ht⟩ := e
        rw [← ht, hy]
        simp
      rw [explore_step (st := nst x.nodes.length) (by show (rangeS _)[_]? = _; exact rangeS_get hlt),
        hsim (graphSem z.nodes) _ (graph_next hnd (by omega)) (graph_look hnd (by omega)), Option.bind_some]
      exact explore_sim h64 hz h2 a (by omega) (by omega)

/-- THE LAW: what was explored, explored again with room enough, is itself. -/
theorem explored_again {M : Sem} {most : Nat} {gs : List Node} {ss : List ByteArray} (h : explored M most = some (gs, ss)) (h1 : 1 ≤ most) (h64 : most < 18446744073709551616) : gs.length = ss.length ∧ ss.length ≤ most ∧ 1 ≤ ss.length ∧ explored (graphSem gs) ss.length = some (gs, rangeS ss.length) := by
  obtain ⟨z, hz, he⟩ := Option.map_eq_some_iff.1 h
  obtain ⟨rfl, rfl⟩ : z.nodes = gs ∧ z.states = ss := by simpa using he
  have hw := explore_whole hz (by simpa using h1) (by simp) (by simp)
  obtain ⟨hl, hp, _⟩ := explore_len hz (by simpa using h1)
  have h1' : 1 ≤ z.states.length := by simpa using hp.length_le
  refine ⟨hw, hl, h1', ?_⟩
  have := explore_sim (f' := z.states.length) (by omega) hw hz (by simpa using h1) (by simp) (by simp)
  unfold explored
  have hr : rangeS ([M.begin] : List ByteArray).length = [(graphSem z.nodes).begin] := rfl
  simp only [hr] at this
  rw [this]
  rfl

end Go.Proofs.YtiinmaedmkgfoaaDoor
/-
  A graph that may be is explored, and what comes of it may be: plain data.
-/
namespace Go.Proofs.YtiinmaedmkgfoaaDoor

theorem sum_nodup (f : Nat → Nat) : ∀ (n : Nat) (q : List Nat), q.Nodup → (∀ k ∈ q, k < n) → (q.map f).sum ≤ ((List.range n).map f).sum
  | 0, q, _, h => by
    cases q with
    | nil => simp
    | cons a r => exact absurd (h a (by simp)) (Nat.not_lt_zero _)
  | n + 1, q, hn, h => by
    rw [List.range_succ, List.map_append, List.sum_append]
    by_cases hm : n ∈ q
    · have hp := (List.perm_cons_erase hm).map f
      have hs := hp.sum_nat
      rw [hs, List.map_cons, List.sum_cons]
      have := sum_nodup f n (q.erase n) (hn.erase n) (fun k hk => by
        have h1 := h k (List.mem_of_mem_erase hk)
        have h2 : k ≠ n := fun e => by rw [e] at hk; exact (List.Nodup.mem_erase_iff hn).1 hk |>.1 rfl
        omega)
      simp only [List.map_cons, List.map_nil, List.sum_cons, List.sum_nil]
      omega
    · have := sum_nodup f n q hn (fun k hk => by
        have h1 := h k hk
        have h2 : k ≠ n := fun e => hm (e ▸ hk)
        omega)
      omega

theorem sum_ones (q : List Nat) : (q.map fun _ => 1).sum = q.length := by
  induction q with
  | nil => rfl
  | cons a r ih => rw [List.map_cons, List.sum_cons, ih, List.length_cons]; omega
theorem nodup_len {n : Nat} {q : List Nat} (hn : q.Nodup) (h : ∀ k ∈ q, k < n) : q.length ≤ n := by
  have := sum_nodup (fun _ => 1) n q hn h
  rw [sum_ones, sum_ones, List.length_range] at this
  exact this

/-- How many arcs a node has. -/
def arcsAt (ns : List Node) (k : Nat) : Nat := match ns[k]? with | some x => x.arcs.length | none => 0
theorem arcsIn_append (a b : List Node) : arcsIn (a ++ b) = arcsIn a + arcsIn b := by
  induction a with
  | nil => simp [arcsIn]
  | cons x r ih => rw [List.cons_append, arcsIn, arcsIn, ih]; omega
theorem arcsIn_sum (ns : List Node) : arcsIn ns = ((List.range ns.length).map (arcsAt ns)).sum := by
  induction ns with
  | nil => rfl
  | cons x r ih =>
    rw [arcsIn, ih, List.length_cons, List.range_succ_eq_map, List.map_cons, List.sum_cons, List.map_map]
    rfl
theorem arcs_le {ns : List Node} {q : List Nat} (hn : q.Nodup) (h : ∀ k ∈ q, k < ns.length) : (q.map (arcsAt ns)).sum ≤ arcsIn ns := by
  rw [arcsIn_sum]
  exact sum_nodup _ _ q hn h

/-- Nodes, in the order in which they are met. -/
structure Met (ns : List Node) (states : List ByteArray) (ks : List Nat) : Prop where
  st : states = ks.map nst
  nd : ks.Nodup
  lt : ∀ k ∈ ks, k < ns.length

theorem one_yes {ns : List Node} (hs : ns.length ≤ 20000) {u : Und} {ks : List Nat} (h : Met ns u.states ks) {k : Nat} {a : Arc} (ha : arcB ns.length a = true) (hc : u.cnt + 1 ≤ 262144) :
    ∃ u' ks', oneMove 20000 u (movOf k a) = some u' ∧ Met ns u'.states ks' ∧ ks <+: ks' := by
  have ha' := ha
  unfold arcB at ha'
  simp only [Bool.and_eq_true, decide_eq_true_eq] at ha'
  have hcn : ¬ 262144 < u.cnt + 1 := by omega
  by_cases hb : a.bad = 0
  · have hto : (movOf k a).to = nst a.to.toNat := by simp [movOf, hb]
    have hbm : (movOf k a).bad = 0 := hb
    have ht : a.to.toNat < ns.length := by omega
    cases hp : plc u.states (nst a.to.toNat) with
    | some j => exact ⟨⟨u.states, u.cnt + 1, u.arcs ++ [arcOf (movOf k a) j]⟩, ks, by unfold oneMove; simp only [hbm, if_true, hto, hp, if_neg hcn], h, List.prefix_refl _⟩
    | none =>
      have hni : a.to.toNat ∉ ks := fun hm => plc_none.1 hp (by rw [h.st]; exact List.mem_map_of_mem hm)
      have hnd : (a.to.toNat :: ks).Nodup := List.nodup_cons.2 ⟨hni, h.nd⟩
      have hlen := nodup_len hnd (n := ns.length) (fun j hj => by
        rcases List.mem_cons.1 hj with rfl | hj
        · exact ht
        · exact h.lt j hj)
      have hne : ¬ u.states.length = 20000 := by
        rw [h.st, List.length_map]
        simp only [List.length_cons] at hlen
        omega
      refine ⟨⟨u.states ++ [nst a.to.toNat], u.cnt + 1, u.arcs ++ [arcOf (movOf k a) u.states.length]⟩, ks ++ [a.to.toNat], by unfold oneMove; simp only [hbm, if_true, hto, hp, if_neg hne, if_neg hcn], ⟨by simp [h.st], ?_, ?_⟩, List.prefix_append _ _⟩
      · rw [List.nodup_append]
        exact ⟨h.nd, List.pairwise_singleton _ _, fun x hx y hy e => hni (by rw [List.mem_singleton.1 hy] at e; exact e ▸ hx)⟩
      · intro j hj
        rcases List.mem_append.1 hj with hj | hj
        · exact h.lt j hj
        · rw [List.mem_singleton.1 hj]; exact ht
  · have hbm : ¬ (movOf k a).bad = 0 := hb
    exact ⟨⟨u.states, u.cnt + 1, u.arcs ++ [arcOf (movOf k a) 0]⟩, ks, by unfold oneMove; simp only [if_neg hbm, if_neg hcn], h, List.prefix_refl _⟩

theorem all_yes {ns : List Node} (hs : ns.length ≤ 20000) : ∀ (l : List Mov) {u : Und} {ks : List Nat}, Met ns u.states ks → (∀ m ∈ l, ∃ k a, arcB ns.length a = true ∧ m = movOf k a) → u.cnt + l.length ≤ 262144 →
    ∃ u' ks', allMoves 20000 u l = some u' ∧ Met ns u'.states ks' ∧ ks <+: ks'
  | [], u, ks, h, _, _ => ⟨u, ks, rfl, h, List.prefix_refl _⟩
  | m :: r, u, ks, h, hl, hc => by
    obtain ⟨k, a, ha, rfl⟩ := hl m (by simp)
    simp only [List.length_cons] at hc
    obtain ⟨v, kv, h1, h2, h3⟩ := one_yes hs h ha (k := k) (by omega)
    have hu : u.states.length ≤ 20000 := by
      rw [h.st, List.length_map]
      have := nodup_len h.nd h.lt
      omega
    obtain ⟨_, _, hcv, _⟩ := oneMove_len h1 hu
    obtain ⟨z, kz, h4, h5, h6⟩ := all_yes hs r h2 (fun m' hm => hl m' (by simp [hm])) (by omega)
    exact ⟨z, kz, by rw [allMoves, h1, Option.bind_some, h4], h5, h3.trans h6⟩

/-- What may be known of a graph that is being explored. -/
structure GI (ns : List Node) (x : Expl) (ks : List Nat) : Prop where
  met : Met ns x.states ks
  le : x.nodes.length ≤ x.states.length
  cnt : x.cnt = ((ks.take x.nodes.length).map (arcsAt ns)).sum
  cnt' : x.cnt = arcsIn x.nodes
  arcs : ∀ nd ∈ x.nodes, ∀ a ∈ nd.arcs, (∃ b, arcB ns.length b = true ∧ a.proc = b.proc ∧ a.bad = b.bad ∧ a.reads = b.reads ∧ a.writes = b.writes) ∧ 0 ≤ a.to ∧ (a.bad = 0 → a.to < x.states.length) ∧ (a.bad ≠ 0 → a.to = 0)

theorem fitsAll_len : ∀ {ms : List Mov} {bs : List Arc} {c : Nat}, FitsAll ms bs c → bs.length = ms.length
  | [], [], _, _ => rfl
  | _ :: _, _ :: _, _, h => by simp [fitsAll_len h.2]
theorem fitsAll_mem : ∀ {ms : List Mov} {bs : List Arc} {c : Nat}, FitsAll ms bs c → ∀ a ∈ bs, ∃ m ∈ ms, Fits m a c
  | [], [], _, _, a, ha => by cases ha
  | m :: _, b :: _, _, h, a, ha => by
    rcases List.mem_cons.1 ha with rfl | ha
    · exact ⟨m, by simp, h.1⟩
    · obtain ⟨m', h1, h2⟩ := fitsAll_mem h.2 a ha
      exact ⟨m', by simp [h1], h2⟩

theorem may_parts {ns : List Node} (h : mayN ns = true) : 1 ≤ ns.length ∧ ns.length ≤ 20000 ∧ arcsIn ns ≤ 262144 ∧ ∀ x ∈ ns, ∀ a ∈ x.arcs, arcB ns.length a = true := by
  unfold mayN at h
  simp only [Bool.and_eq_true, decide_eq_true_eq, List.all_eq_true] at h
  exact ⟨h.1.1.1, h.1.1.2, h.1.2, h.2⟩

theorem mem_movsOf' {l : List Arc} {m : Mov} (h : m ∈ movsOf l) : ∃ k a, a ∈ l ∧ m = movOf k a := by
  obtain ⟨i, hi, rfl⟩ := List.mem_iff_getElem.1 h
  have hl : i < l.length := by simpa [movsOf] using hi
  exact ⟨i, l[i], List.getElem_mem hl, by simp [movsOf]⟩

theorem GI.step {ns : List Node} (hm : mayN ns = true) {x : Expl} {ks : List Nat} (h : GI ns x ks) {st : ByteArray} (hst : x.states[x.nodes.length]? = some st) : ∃ y ky, oneState (graphSem ns) 20000 x st = some y ∧ GI ns y ky := by
  obtain ⟨h1, h2, h3, h4⟩ := may_parts hm
  have hlt : x.nodes.length < ks.length := by
    have := (List.getElem?_eq_some_iff.1 hst).1
    rw [h.met.st, List.length_map] at this
    exact this
  obtain ⟨k, hk⟩ : ∃ k, ks[x.nodes.length]? = some k := ⟨_, List.getElem?_eq_getElem hlt⟩
  have hkl : k < ns.length := h.met.lt k (List.mem_of_getElem? hk)
  obtain ⟨nd, hnd⟩ : ∃ nd, ns[k]? = some nd := ⟨_, List.getElem?_eq_getElem hkl⟩
  obtain rfl : nst k = st := by
    rw [h.met.st, List.getElem?_map, hk] at hst
    simpa using hst
  have hnx : (graphSem ns).next (nst k) = movsOf nd.arcs := graph_next hnd (by omega)
  have hml : (movsOf nd.arcs).length = nd.arcs.length := by simp [movsOf]
  have htk : ks.take (x.nodes.length + 1) = ks.take x.nodes.length ++ [k] := by rw [List.take_add_one, hk]; rfl
  have hsum : x.cnt + nd.arcs.length = ((ks.take (x.nodes.length + 1)).map (arcsAt ns)).sum := by
    rw [htk, List.map_append, List.sum_append, ← h.cnt]
    simp [arcsAt, hnd]
  have hcb : x.cnt + nd.arcs.length ≤ 262144 := by
    rw [hsum]
    exact Nat.le_trans (arcs_le (h.met.nd.sublist (List.take_sublist _ _)) (fun j hj => h.met.lt j (List.mem_of_mem_take hj))) h3
  have hus : x.states.length ≤ 20000 := by
    rw [h.met.st, List.length_map]
    have := nodup_len h.met.nd h.met.lt
    omega
  obtain ⟨u, ku, hu, hmet, hpre⟩ := all_yes h2 (movsOf nd.arcs) (u := ⟨x.states, x.cnt, []⟩) h.met (fun m hm' => by
    obtain ⟨i, a, ha, rfl⟩ := mem_movsOf' hm'
    exact ⟨i, a, h4 nd (List.mem_of_getElem? hnd) a ha, rfl⟩) (by rw [hml]; exact hcb)
  have ho : oneState (graphSem ns) 20000 x (nst k) = some ⟨x.nodes ++ [nodeOf ((graphSem ns).look (nst k)) u.arcs], u.states, u.cnt⟩ := by
    unfold oneState
    rw [hnx, hu]
    rfl
  obtain ⟨q1, q2, q3⟩ := allMoves_len hu hus
  obtain ⟨nd', e1, e2, _⟩ := state_sim (L := 20000) (by decide) ho hus q1
  obtain rfl : nodeOf ((graphSem ns).look (nst k)) u.arcs = nd' := by simpa using e1
  rw [hnx] at e2
  have hal : u.arcs.length = nd.arcs.length := by rw [← hml]; exact fitsAll_len e2
  simp only at q2 q3
  refine ⟨_, ku, ho, hmet, ?_, ?_, ?_, ?_⟩
  · have := (List.getElem?_eq_some_iff.1 hst).1
    have := q2.length_le
    simp only [List.length_append, List.length_cons, List.length_nil]
    omega
  · obtain ⟨t, ht⟩ := hpre
    have htk' : ku.take (x.nodes.length + 1) = ks.take (x.nodes.length + 1) := by
      rw [← ht, List.take_append_of_le_length (by omega)]
    simp only [List.length_append, List.length_cons, List.length_nil, Nat.zero_add]
    rw [htk', ← hsum, q3, hml]
  · simp only [arcsIn_append, arcsIn, nodeOf, ← h.cnt']
    rw [q3, hml, hal]
    rfl
  · intro n' hn' a ha
    rcases List.mem_append.1 hn' with hn' | hn'
    · obtain ⟨g1, g2, g3, g4⟩ := h.arcs n' hn' a ha
      exact ⟨g1, g2, fun hb => by have := g3 hb; have := q2.length_le; simp only; omega, g4⟩
    · rw [List.mem_singleton.1 hn'] at ha
      obtain ⟨m, hm1, hm2⟩ := fitsAll_mem e2 a ha
      obtain ⟨i, b, hb, rfl⟩ := mem_movsOf' hm1
      exact ⟨⟨b, h4 nd (List.mem_of_getElem? hnd) b hb, hm2.proc, hm2.bad, hm2.reads, hm2.writes⟩, hm2.lo, hm2.hi, hm2.no⟩

theorem explore_yes {ns : List Node} (hm : mayN ns = true) : ∀ (f : Nat) {x : Expl} {ks : List Nat}, GI ns x ks → ∃ z kz, explore (graphSem ns) 20000 f x = some z ∧ GI ns z kz
  | 0, x, ks, h => ⟨x, ks, rfl, h⟩
  | f + 1, x, ks, h => by
    cases hs : x.states[x.nodes.length]? with
    | none => exact ⟨x, ks, explore_end hs, h⟩
    | some st =>
      obtain ⟨y, ky, h1, h2⟩ := h.step hm hs
      obtain ⟨z, kz, h3, h4⟩ := explore_yes hm f h2
      exact ⟨z, kz, by rw [explore_step hs, h1, Option.bind_some, h3], h4⟩

/-- THE LAW: a graph that may be is explored; what comes of it may be, has no more states, and explored again is itself. -/
theorem again_of {ns : List Node} (hm : mayN ns = true) : ∃ gs ss, explored (graphSem ns) 20000 = some (gs, ss) ∧ ss.length ≤ ns.length ∧ mayN gs = true ∧ gs.length = ss.length ∧ 1 ≤ ss.length ∧ ss.length ≤ 20000 ∧ explored (graphSem gs) ss.length = some (gs, rangeS ss.length) := by
  obtain ⟨h1, h2, h3, h4⟩ := may_parts hm
  have h0 : GI ns ⟨[], [(graphSem ns).begin], 0⟩ [0] := ⟨⟨rfl, by simp, by intro k hk; rw [List.mem_singleton.1 hk]; omega⟩, by simp, by simp, rfl, by simp⟩
  obtain ⟨z, kz, hz, hg⟩ := explore_yes hm 20000 h0
  have he : explored (graphSem ns) 20000 = some (z.nodes, z.states) := by unfold explored; rw [hz]; rfl
  obtain ⟨e1, e2, e3, e4⟩ := explored_again he (by decide) (by decide)
  have hsl : z.states.length ≤ ns.length := by
    rw [hg.met.st, List.length_map]
    exact nodup_len hg.met.nd hg.met.lt
  refine ⟨z.nodes, z.states, he, hsl, ?_, e1, e3, e2, e4⟩
  have hcn : arcsIn z.nodes ≤ 262144 := by
    rw [← hg.cnt', hg.cnt]
    exact Nat.le_trans (arcs_le (hg.met.nd.sublist (List.take_sublist _ _)) (fun j hj => hg.met.lt j (List.mem_of_mem_take hj))) h3
  unfold mayN
  simp only [Bool.and_eq_true, decide_eq_true_eq, List.all_eq_true]
  refine ⟨⟨⟨by omega, by omega⟩, hcn⟩, fun nd hnd a ha => ?_⟩
  obtain ⟨⟨b, hb, p1, p2, p3, p4⟩, p5, p6, p7⟩ := hg.arcs nd hnd a ha
  unfold arcB at hb ⊢
  simp only [Bool.and_eq_true, Bool.or_eq_true, decide_eq_true_eq] at hb ⊢
  rw [p1, p2, p3, p4]
  rw [p2] at p6 p7
  refine ⟨⟨⟨⟨⟨⟨⟨⟨hb.1.1.1.1.1.1.1.1, hb.1.1.1.1.1.1.1.2⟩, hb.1.1.1.1.1.1.2⟩, hb.1.1.1.1.1.2⟩, hb.1.1.1.1.2⟩, hb.1.1.1.2⟩, p5⟩, ?_⟩, ?_⟩
  · by_cases h0 : b.bad = 0
    · have := p6 h0; omega
    · have := p7 h0; omega
  · by_cases h0 : b.bad = 0
    · exact .inl h0
    · exact .inr (p7 h0)

end Go.Proofs.YtiinmaedmkgfoaaDoor
/-
  Are two graphs the same: what the reference's Nets answers.
-/
namespace Go.Proofs.YtiinmaedmkgfoaaDoor
open Go.RowKit

theorem arc_cases (p q : Arc) : (¬ p.reads = q.reads) ∨ (p.reads = q.reads ∧ ¬ p.writes = q.writes) ∨ (p.reads = q.reads ∧ p.writes = q.writes ∧ ¬ p.proc = q.proc) ∨ (p.reads = q.reads ∧ p.writes = q.writes ∧ p.proc = q.proc ∧ ¬ p.to = q.to) ∨
    (p.reads = q.reads ∧ p.writes = q.writes ∧ p.proc = q.proc ∧ p.to = q.to ∧ ¬ p.bad = q.bad) ∨ (p.reads = q.reads ∧ p.writes = q.writes ∧ p.proc = q.proc ∧ p.to = q.to ∧ p.bad = q.bad ∧ ¬ p.turns = q.turns) ∨ p = q := by
  rcases p with ⟨a, b, c, d, e, f⟩
  rcases q with ⟨a', b', c', d', e', f'⟩
  simp only [Arc.mk.injEq]
  by_cases h1 : d = d'
  · by_cases h2 : e = e'
    · simp only [h1, h2, true_and, not_true, false_or]; omega
    · exact .inr (.inl ⟨h1, h2⟩)
  · exact .inl h1

theorem node_cases (p q : Node) : (¬ p.props = q.props) ∨ (p.props = q.props ∧ ¬ p.en = q.en) ∨ (p.props = q.props ∧ p.en = q.en ∧ ¬ p.pr = q.pr) ∨ (p.props = q.props ∧ p.en = q.en ∧ p.pr = q.pr ∧ ¬ p.ac = q.ac) ∨
    (p.props = q.props ∧ p.en = q.en ∧ p.pr = q.pr ∧ p.ac = q.ac ∧ ¬ p.arcs.length = q.arcs.length) ∨ (p.props = q.props ∧ p.en = q.en ∧ p.pr = q.pr ∧ p.ac = q.ac ∧ p.arcs.length = q.arcs.length) := by
  by_cases h1 : p.props = q.props <;> by_cases h2 : p.en = q.en <;> by_cases h3 : p.pr = q.pr <;> by_cases h4 : p.ac = q.ac <;> by_cases h5 : p.arcs.length = q.arcs.length <;> simp [h1, h2, h3, h4, h5]

theorem node_eq {p q : Node} (h1 : p.props = q.props) (h2 : p.en = q.en) (h3 : p.pr = q.pr) (h4 : p.ac = q.ac) (h5 : p.arcs = q.arcs) : p = q := by
  rcases p with ⟨a, b, c, d, e⟩
  rcases q with ⟨a', b', c', d', e'⟩
  simp_all

theorem bool_not {a b : Bool} (h : ¬ a = b) : b = !a := by cases a <;> cases b <;> simp_all

/-- A box of one cell. -/
theorem box_new (w : World) (v : Value) (t : TypeId) : (w.alloc (.cells #[v] t)).heap[w.heap.size]? = some (.cells #[v] t (0, 0)) := heap_alloc_new w _

set_option maxHeartbeats 8000000 in
set_option maxRecDepth 40000 in
theorem rNets_any (w : World) {B : Nat} {ao bo : Option Addr} {cap dap : Nat} (ns ms : List Node) (h : NodesAt w B ao ns) (hu : NodesAt w B bo ms) (hB : B ≤ w.heap.size) :
    Calls Tryd.prog 23 #[.agg #[.slice ao ns.length cap], .agg #[.slice bo ms.length dap]] w fun r w' => r = .returned (.bool (decide (ns = ms))) ∧ Nu w w' := by
  obtain ⟨A, hA⟩ : ∃ A, decide (ns = ms) = A := ⟨_, rfl⟩
  rw [hA]
  have HA : Hid (decide (ns = ms) = A) := hA
  have HB1 : Hid (Nu w ((w.alloc (.cells #[.slice ao ns.length cap] 46)).alloc (.cells #[.slice bo ms.length dap] 46))) := mv0 (Mv.alloc _ _ _) (Mv.alloc _ _ _)
  have hlim := h.lim
  have hlim2 := hu.lim
  have HS : Hid (NodesAt w B ao ns) := h
  have HU : Hid (NodesAt w B bo ms) := hu
  clear h hu hA
  by_cases h2 : ns.length = ms.length
  case neg =>
    have HM : Hid (A = false) := HA.out.symm.trans (decide_eq_false (fun e => h2 (congrArg List.length e)))
    have h2' : ¬ (ns.length : Int) = (ms.length : Int) := by omega
    go_enter Tryd.func23, Tryd.ntmps23
    go_wp2
    go_ret
    exact ⟨by rw [HM.out]; rfl, HB1.out⟩
  have HL : Hid (ns.length = ms.length) := h2
  rw [← h2]
  rw [← h2] at HB1
  clear h2
  go_enter Tryd.func23, Tryd.ntmps23
  go_wp2
  have HX : Hid (((w.alloc (.cells #[.slice ao ns.length cap] 46)).alloc (.cells #[.slice bo ns.length dap] 46)).cell? ⟨w.heap.size, 0, none⟩ = some (.slice ao ns.length cap) ∧ ((w.alloc (.cells #[.slice ao ns.length cap] 46)).alloc (.cells #[.slice bo ns.length dap] 46)).cell? ⟨w.heap.size + 1, 0, none⟩ = some (.slice bo ns.length dap)) := by
    refine ⟨cell_mv (Mv.alloc (fun _ => False) _ _) (cell_blk (box_new w _ _) 0) id, ?_⟩
    have := cell_blk (box_new (w.alloc (.cells #[.slice ao ns.length cap] 46)) (.slice bo ns.length dap) 46) 0
    rw [World.size_alloc] at this
    exact this
  generalize hW1 : (w.alloc (.cells #[.slice ao ns.length cap] 46)).alloc (.cells #[.slice bo ns.length dap] 46) = W1 at *
  clear hW1
  go_loopw [5] (fun iv wr => ∃ (i : Nat), i ≤ ns.length ∧ iv = .int .i64 (i : Int) ∧ Hid (sameTo ns ms i) ∧ Nu W1 wr)
    (fun iv _ => ns.length - (intOf iv).toNat)
  case atStart => exact ⟨0, Nat.zero_le _, rfl, sameTo_zero _ _, Mv.refl _ _⟩
  case round =>
    obtain ⟨i, hi, rfl, HI, hbr1⟩ := hrel
    have HR : Hid (Nu W1 wr) := hbr1
    have hbr : Nu w wr := mv0 HB1.out hbr1
    have HW : Hid (Nu w wr) := hbr
    have d0 := cell_mv hbr1 HX.out.1 id
    have d1 := cell_mv hbr1 HX.out.2 id
    have hbb : Below B w wr := hbr.nu_below.mono hB
    clear hbr1 hbr
    rcases Nat.lt_or_ge i ns.length with hlt | hge
    case inr =>
      obtain rfl : i = ns.length := by omega
      have HM : Hid (A = true) := HA.out.symm.trans (decide_eq_true (sameTo_all HL.out HI.out))
      clear d1
      go_wp2
      go_ret
      exact ⟨by rw [HM.out]; rfl, HW.out⟩
    have hlt' : (i : Int) < (ns.length : Int) := by omega
    have hltu : i < ms.length := by have := HL.out; omega
    rcases (HS.out.below hbb (Nat.le_refl _)).row with h0 | ⟨b, off, rfl, hbB, hit⟩
    · omega
    rcases (HU.out.below hbb (Nat.le_refl _)).row with h0 | ⟨b', off', rfl, hbB', hit'⟩
    · have := HL.out; omega
    have HT : Hid (i < ns.length ∧ i < ms.length) := ⟨hlt, hltu⟩
    obtain ⟨x, HE, hx⟩ : ∃ x, Hid (ns[i]'hlt = x) ∧ NodeAt wr B b (off + i * 5) x := ⟨_, rfl, hit i hlt⟩
    obtain ⟨y, HF, hy⟩ : ∃ y, Hid (ms[i]'hltu = y) ∧ NodeAt wr B b' (off' + i * 5) y := ⟨_, rfl, hit' i hltu⟩
    obtain ⟨_, c0, xo, xc, rfl, hxa⟩ := hx.c0
    obtain ⟨_, e0, yo, yc, rfl, hya⟩ := hy.c0
    have c1 := hx.c1
    have c2 := hx.c2
    have c3 := hx.c3
    have c4 := hx.c4
    have e1 := hy.c1
    have e2 := hy.c2
    have e3 := hy.c3
    have e4 := hy.c4
    have HN : Hid (¬ x = y → A = false) := fun hne => HA.out.symm.trans (decide_eq_false (fun e => hne (by rw [← HE.out, ← HF.out]; simp only [e])))
    have HXY : Hid (ArcsAt wr B xo x.arcs ∧ ArcsAt wr B yo y.arcs) := ⟨hxa, hya⟩
    have hl1 := hxa.lim
    have hl2 := hya.lim
    clear hx hy hit hit' hbb hxa hya
    have hz1 : w.heap.size + 1 < wr.heap.size := World.block_lt_of_cell? wr _ d1
    have hz0 : w.heap.size < wr.heap.size := by omega
    have hzb : b < wr.heap.size := World.block_lt_of_cell? wr _ c1
    have hzb' : b' < wr.heap.size := World.block_lt_of_cell? wr _ e1
    have hnu : ∀ o o', Nu wr ((wr.alloc o).alloc o') := fun o o' => mv0 (Mv.alloc _ _ _) (Mv.alloc _ _ _)
    have HNU : Hid _ := hnu
    clear hnu
    rcases node_cases x y with hh | ⟨h1, hh⟩ | ⟨h1, h2, hh⟩ | ⟨h1, h2, h3, hh⟩ | ⟨h1, h2, h3, h4, hh⟩ | ⟨h1, h2, h3, h4, h5⟩
    · have HM : Hid (A = false) := HN.out (fun e => hh (by rw [e]))
      go_wp2
      go_ret
      exact ⟨by rw [HM.out]; rfl, mv0 HW.out (HNU.out _ _)⟩
    · have HM : Hid (A = false) := HN.out (fun e => hh (by rw [e]))
      rw [← h1] at e1
      rw [bool_not hh] at e2
      clear h1 hh
      go_wp2
      go_ret
      exact ⟨by rw [HM.out]; rfl, mv0 HW.out (HNU.out _ _)⟩
    · have HM : Hid (A = false) := HN.out (fun e => hh (by rw [e]))
      rw [← h1] at e1
      rw [← h2] at e2
      rw [bool_not hh] at e3
      clear h1 h2 hh
      go_wp2
      go_ret
      exact ⟨by rw [HM.out]; rfl, mv0 HW.out (HNU.out _ _)⟩
    · have HM : Hid (A = false) := HN.out (fun e => hh (by rw [e]))
      rw [← h1] at e1
      rw [← h2] at e2
      rw [← h3] at e3
      rw [bool_not hh] at e4
      clear h1 h2 h3 hh
      go_wp2
      go_ret
      exact ⟨by rw [HM.out]; rfl, mv0 HW.out (HNU.out _ _)⟩
    · have HM : Hid (A = false) := HN.out (fun e => hh (by rw [e]))
      rw [← h1] at e1
      rw [← h2] at e2
      rw [← h3] at e3
      rw [← h4] at e4
      have hh' : ¬ (x.arcs.length : Int) = (y.arcs.length : Int) := by omega
      clear h1 h2 h3 h4 hh
      go_wp2
      go_ret
      exact ⟨by rw [HM.out]; rfl, mv0 HW.out (HNU.out _ _)⟩
    have HQ : Hid (x.props = y.props ∧ x.en = y.en ∧ x.pr = y.pr ∧ x.ac = y.ac ∧ x.arcs.length = y.arcs.length) := ⟨h1, h2, h3, h4, h5⟩
    rw [← h1] at e1
    rw [← h2] at e2
    rw [← h3] at e3
    rw [← h4] at e4
    rw [← h5] at e0
    clear h1 h2 h3 h4 h5
    have HY : Hid (∀ (v1 v2 : Value) (l1 l2 : List Value), ((wr.alloc (.cells (v1 :: l1).toArray 125)).alloc (.cells (v2 :: l2).toArray 125)).cell? ⟨wr.heap.size, 0, none⟩ = some v1 ∧ ((wr.alloc (.cells (v1 :: l1).toArray 125)).alloc (.cells (v2 :: l2).toArray 125)).cell? ⟨wr.heap.size + 1, 0, none⟩ = some v2) := by
      intro v1 v2 l1 l2
      refine ⟨cell_mv (Mv.alloc (fun _ => False) _ _) (by rw [cell_blk (heap_alloc_new wr _)]; rfl) id, ?_⟩
      have := cell_blk (heap_alloc_new (wr.alloc (.cells (v1 :: l1).toArray 125)) (.cells (v2 :: l2).toArray 125)) 0
      rw [World.size_alloc] at this
      rw [this]; rfl
    go_wp2
    have hyy := HY.out (.slice xo x.arcs.length xc) (.slice yo x.arcs.length yc) [.int .u64 x.props, .bool x.en, .bool x.pr, .bool x.ac] [.int .u64 x.props, .bool x.en, .bool x.pr, .bool x.ac]
    have hnn := HNU.out (.cells #[.slice xo x.arcs.length xc, .int .u64 x.props, .bool x.en, .bool x.pr, .bool x.ac] 125) (.cells #[.slice yo x.arcs.length yc, .int .u64 x.props, .bool x.en, .bool x.pr, .bool x.ac] 125)
    have HYY : Hid _ := hyy
    have HNN : Hid _ := hnn
    clear hyy hnn HY HNU c0 c1 c2 c3 c4 e0 e1 e2 e3 e4 d0 d1
    generalize (wr.alloc (.cells #[.slice xo x.arcs.length xc, .int .u64 x.props, .bool x.en, .bool x.pr, .bool x.ac] 125)).alloc (.cells #[.slice yo x.arcs.length yc, .int .u64 x.props, .bool x.en, .bool x.pr, .bool x.ac] 125) = W3 at *
    have HZ : Hid (B ≤ wr.heap.size) := by have := HW.out.size; show _ ≤ _; omega
    go_loopw [8] (fun kv wk => ∃ (k : Nat), k ≤ x.arcs.length ∧ kv = .int .i64 (k : Int) ∧ Hid (sameTo x.arcs y.arcs k) ∧ Nu W3 wk)
      (fun kv _ => x.arcs.length - (intOf kv).toNat)
    case atStart => exact ⟨0, Nat.zero_le _, rfl, sameTo_zero _ _, Mv.refl _ _⟩
    case round =>
      rename World => wk
      obtain ⟨k, hk, rfl, HK, hnk⟩ := hrel
      have HNK : Hid (Nu wr wk) := mv0 HNN.out hnk
      have HWK : Hid (Nu w wk) := mv0 HW.out HNK.out
      have g0 := cell_mv hnk HYY.out.1 id
      have g1 := cell_mv hnk HYY.out.2 id
      have hbk : Below B wr wk := HNK.out.nu_below.mono HZ.out
      have HRK : Hid (Nu W3 wk) := hnk
      clear hnk
      rcases Nat.lt_or_ge k x.arcs.length with hkl | hkg
      case inr =>
        obtain rfl : k = x.arcs.length := by omega
        have HO : Hid (sameTo ns ms (i + 1)) := sameTo_succ HT.out.1 HT.out.2 HI.out (by
          rw [HE.out, HF.out]
          exact node_eq HQ.out.1 HQ.out.2.1 HQ.out.2.2.1 HQ.out.2.2.2.1 (sameTo_all HQ.out.2.2.2.2 HK.out))
        have HRR : Hid (Nu W1 wk) := mv0 HR.out HNK.out
        clear g1 hbk
        go_wp2
        go_roundw
        case rel => exact ⟨i + 1, HT.out.1, by go_num, HO, HRR.out⟩
        case measure => have := HT.out.1; simp [intOf]; omega
      have hkl' : (k : Int) < (x.arcs.length : Int) := by omega
      have hku : k < y.arcs.length := by have := HQ.out.2.2.2.2; omega
      rcases (HXY.out.1.below hbk (Nat.le_refl _)).row with h0 | ⟨pb, po, rfl, hpB, pit⟩
      · omega
      rcases (HXY.out.2.below hbk (Nat.le_refl _)).row with h0 | ⟨qb, qo, rfl, hqB, qit⟩
      · have := HQ.out.2.2.2.2; omega
      have HKT : Hid (k < x.arcs.length ∧ k < y.arcs.length) := ⟨hkl, hku⟩
      obtain ⟨p, HP, hp⟩ : ∃ p, Hid (x.arcs[k]'hkl = p) ∧ ArcAt wk B pb (po + k * 6) p := ⟨_, rfl, pit k hkl⟩
      obtain ⟨q, HQQ, hq⟩ : ∃ q, Hid (y.arcs[k]'hku = q) ∧ ArcAt wk B qb (qo + k * 6) q := ⟨_, rfl, qit k hku⟩
      obtain ⟨_, p3, pro, prc, rfl, pri⟩ := hp.c3
      obtain ⟨_, p4, pwo, pwc, rfl, pwi⟩ := hp.c4
      obtain ⟨_, q3, qro, qrc, rfl, qri⟩ := hq.c3
      obtain ⟨_, q4, qwo, qwc, rfl, qwi⟩ := hq.c4
      have p0 := hp.c0
      have p1 := hp.c1
      have p2 := hp.c2
      have p5 := hp.c5
      have q0 := hq.c0
      have q1 := hq.c1
      have q2 := hq.c2
      have q5 := hq.c5
      have hz1k : wr.heap.size + 1 < wk.heap.size := World.block_lt_of_cell? wk _ g1
      have hz0k : wr.heap.size < wk.heap.size := by omega
      have hzp : pb < wk.heap.size := World.block_lt_of_cell? wk _ p0
      have hzq : qb < wk.heap.size := World.block_lt_of_cell? wk _ q0
      have HNA : Hid (¬ p = q → A = false) := fun hne => HN.out (fun e => hne (by rw [← HP.out, ← HQQ.out]; simp only [e]))
      have HSA : Hid (p = q → sameTo x.arcs y.arcs (k + 1)) := fun e => sameTo_succ HKT.out.1 HKT.out.2 HK.out (by rw [HP.out, HQQ.out]; exact e)
      have HIN : Hid (IntsAt wk B pro p.reads ∧ IntsAt wk B pwo p.writes ∧ IntsAt wk B qro q.reads ∧ IntsAt wk B qwo q.writes) := ⟨pri, pwi, qri, qwi⟩
      have HNU2 : Hid (∀ o o', Nu wk ((wk.alloc o).alloc o')) := fun o o' => mv0 (Mv.alloc _ _ _) (Mv.alloc _ _ _)
      have HBX : Hid (∀ (l1 l2 : List Value) (i : Nat), ((wk.alloc (.cells l1.toArray 122)).alloc (.cells l2.toArray 122)).cell? ⟨wk.heap.size, i, none⟩ = l1[i]? ∧ ((wk.alloc (.cells l1.toArray 122)).alloc (.cells l2.toArray 122)).cell? ⟨wk.heap.size + 1, i, none⟩ = l2[i]?) := by
        intro l1 l2 i
        refine ⟨?_, ?_⟩
        · rw [cell_blk ((Mv.alloc (fun _ => False) _ _).heap (heap_alloc_new wk _) id)]; simp
        · have := cell_blk (heap_alloc_new (wk.alloc (.cells l1.toArray 122)) (.cells l2.toArray 122)) i
          rw [World.size_alloc] at this
          rw [this]; simp
      clear hp hq pit qit pri pwi qri qwi hbk hpB hqB
      go_wp2_with fail
      have hb := HBX.out [.int .i64 p.proc, .int .i64 p.to, .int .i64 p.bad, .slice pro p.reads.length prc, .slice pwo p.writes.length pwc, .int .u64 p.turns] [.int .i64 q.proc, .int .i64 q.to, .int .i64 q.bad, .slice qro q.reads.length qrc, .slice qwo q.writes.length qwc, .int .u64 q.turns]
      have hn4 := HNU2.out (.cells #[.int .i64 p.proc, .int .i64 p.to, .int .i64 p.bad, .slice pro p.reads.length prc, .slice pwo p.writes.length pwc, .int .u64 p.turns] 122) (.cells #[.int .i64 q.proc, .int .i64 q.to, .int .i64 q.bad, .slice qro q.reads.length qrc, .slice qwo q.writes.length qwc, .int .u64 q.turns] 122)
      have HN4 : Hid _ := hn4
      have HB4 : Hid _ := hb
      clear hb hn4 HBX HNU2 p0 p1 p2 p3 p4 p5 q0 q1 q2 q3 q4 q5 g0 g1
      generalize (wk.alloc (.cells #[.int .i64 p.proc, .int .i64 p.to, .int .i64 p.bad, .slice pro p.reads.length prc, .slice pwo p.writes.length pwc, .int .u64 p.turns] 122)).alloc (.cells #[.int .i64 q.proc, .int .i64 q.to, .int .i64 q.bad, .slice qro q.reads.length qrc, .slice qwo q.writes.length qwc, .int .u64 q.turns] 122) = W4 at *
      have HZ4 : Hid (B ≤ wk.heap.size ∧ B ≤ W4.heap.size) := by
        have h1 := HZ.out
        have h2 := HNK.out.size
        have h3 := HN4.out.size
        exact ⟨by omega, by omega⟩
      have HI4 : Hid (IntsAt W4 B pro p.reads ∧ IntsAt W4 B pwo p.writes ∧ IntsAt W4 B qro q.reads ∧ IntsAt W4 B qwo q.writes) := by
        have hb := HN4.out.nu_below.mono HZ4.out.1
        exact ⟨HIN.out.1.below hb (Nat.le_refl _), HIN.out.2.1.below hb (Nat.le_refl _), HIN.out.2.2.1.below hb (Nat.le_refl _), HIN.out.2.2.2.below hb (Nat.le_refl _)⟩
      refine (rSame_any W4 p.reads q.reads HI4.out.1 HI4.out.2.2.1 HZ4.out.2).mono ?_
      rintro r w5 ⟨rfl, hn5⟩
      have p4 := cell_mv hn5 (HB4.out 4).1 id
      have q4 := cell_mv hn5 (HB4.out 4).2 id
      have HN5 : Hid (Nu W4 w5) := hn5
      clear hn5
      go_wp2_with fail
      have HB5 := HN5.out.nu_below.mono HZ4.out.2
      refine (rSame_any w5 p.writes q.writes (HI4.out.2.1.below HB5 (Nat.le_refl _)) (HI4.out.2.2.2.below HB5 (Nat.le_refl _)) (by have := HZ4.out.2; have := HN5.out.size; omega)).mono ?_
      rintro r w6 ⟨rfl, hn6⟩
      have hn46 := mv0 HN5.out hn6
      clear p4 q4 HB5
      have p0 := cell_mv hn46 (HB4.out 0).1 id
      have p1 := cell_mv hn46 (HB4.out 1).1 id
      have p2 := cell_mv hn46 (HB4.out 2).1 id
      have p5 := cell_mv hn46 (HB4.out 5).1 id
      have q0 := cell_mv hn46 (HB4.out 0).2 id
      have q1 := cell_mv hn46 (HB4.out 1).2 id
      have q2 := cell_mv hn46 (HB4.out 2).2 id
      have q5 := cell_mv hn46 (HB4.out 5).2 id
      have HN6 : Hid (Nu wk w6) := mv0 HN4.out hn46
      clear hn6 hn46 HB4 HI4 HIN
      generalize hA1 : decide (p.reads = q.reads) = A1
      generalize hA2 : decide (p.writes = q.writes) = A2
      rcases arc_cases p q with hh | ⟨h1, hh⟩ | ⟨h1, h2, hh⟩ | ⟨h1, h2, h3, hh⟩ | ⟨h1, h2, h3, h4, hh⟩ | ⟨h1, h2, h3, h4, h5, hh⟩ | hpq
      · have HM : Hid (A = false) := HNA.out (fun e => hh (by rw [e]))
        obtain rfl : A1 = false := by rw [← hA1]; exact decide_eq_false hh
        clear hA1 hA2 hh
        go_wp2
        go_ret
        exact ⟨by rw [HM.out]; rfl, mv0 HWK.out HN6.out⟩
      · have HM : Hid (A = false) := HNA.out (fun e => hh (by rw [e]))
        obtain rfl : A1 = true := by rw [← hA1]; exact decide_eq_true h1
        obtain rfl : A2 = false := by rw [← hA2]; exact decide_eq_false hh
        clear hA1 hA2 hh h1
        go_wp2
        go_ret
        exact ⟨by rw [HM.out]; rfl, mv0 HWK.out HN6.out⟩
      · have HM : Hid (A = false) := HNA.out (fun e => hh (by rw [e]))
        obtain rfl : A1 = true := by rw [← hA1]; exact decide_eq_true h1
        obtain rfl : A2 = true := by rw [← hA2]; exact decide_eq_true h2
        clear hA1 hA2 h1 h2
        go_wp2
        go_ret
        exact ⟨by rw [HM.out]; rfl, mv0 HWK.out HN6.out⟩
      · have HM : Hid (A = false) := HNA.out (fun e => hh (by rw [e]))
        obtain rfl : A1 = true := by rw [← hA1]; exact decide_eq_true h1
        obtain rfl : A2 = true := by rw [← hA2]; exact decide_eq_true h2
        rw [← h3] at q0
        clear hA1 hA2 h1 h2 h3
        go_wp2
        go_ret
        exact ⟨by rw [HM.out]; rfl, mv0 HWK.out HN6.out⟩
      · have HM : Hid (A = false) := HNA.out (fun e => hh (by rw [e]))
        obtain rfl : A1 = true := by rw [← hA1]; exact decide_eq_true h1
        obtain rfl : A2 = true := by rw [← hA2]; exact decide_eq_true h2
        rw [← h3] at q0
        rw [← h4] at q1
        clear hA1 hA2 h1 h2 h3 h4
        go_wp2
        go_ret
        exact ⟨by rw [HM.out]; rfl, mv0 HWK.out HN6.out⟩
      · have HM : Hid (A = false) := HNA.out (fun e => hh (by rw [e]))
        obtain rfl : A1 = true := by rw [← hA1]; exact decide_eq_true h1
        obtain rfl : A2 = true := by rw [← hA2]; exact decide_eq_true h2
        rw [← h3] at q0
        rw [← h4] at q1
        rw [← h5] at q2
        clear hA1 hA2 h1 h2 h3 h4 h5
        go_wp2
        go_ret
        exact ⟨by rw [HM.out]; rfl, mv0 HWK.out HN6.out⟩
      · have HO : Hid (sameTo x.arcs y.arcs (k + 1)) := HSA.out hpq
        obtain rfl : A1 = true := by rw [← hA1]; exact decide_eq_true (by rw [hpq])
        obtain rfl : A2 = true := by rw [← hA2]; exact decide_eq_true (by rw [hpq])
        rw [← hpq] at q0 q1 q2 q5
        have HRN : Hid (Nu W3 w6) := mv0 HRK.out HN6.out
        clear hA1 hA2 hpq
        go_wp2
        go_roundw
        case rel => exact ⟨k + 1, HKT.out.1, by go_num, HO, HRN.out⟩
        case measure => have := HKT.out.1; simp [intOf]; omega

end Go.Proofs.YtiinmaedmkgfoaaDoor
