/-
  NSame, NTwo, NGraph2, NTurnP, NNets.
-/
import Derived.BigQuiet
import Derived.Deep.QuietTactic
import Derived.Deep.RegionWith
import Derived.WalkKit
import Derived.WalkLawsBesides
import Derived.WalkSpells
import Derived.Test.YtmlpndcelfdlhaaM2
import Derived.Test.YtmlpndcelfdlhaaM5
import Derived.Test.YtmlpndcelfdlhaaM8
/-
  Are two lists of numbers the same: what the reference's Same answers.
-/
namespace Go.Proofs.Ytmlpndcelfdlhaa
open Go.RowKit

def sameTo {α : Type} (ss us : List α) (i : Nat) : Prop := ∀ k (h : k < ss.length) (h' : k < us.length), k < i → ss[k] = us[k]
theorem sameTo_zero {α : Type} (ss us : List α) : sameTo ss us 0 := fun _ _ _ h => absurd h (Nat.not_lt_zero _)
theorem sameTo_succ {α : Type} {ss us : List α} {i : Nat} (hi : i < ss.length) (hu : i < us.length) (h : sameTo ss us i) (hs : ss[i] = us[i]) : sameTo ss us (i + 1) := fun k hk hk' hl => by
  rcases Nat.lt_or_ge k i with h1 | h1
  · exact h k hk hk' h1
  · obtain rfl : k = i := by omega
    exact hs
theorem sameTo_all {α : Type} {ss us : List α} (hl : ss.length = us.length) (h : sameTo ss us ss.length) : ss = us :=
  List.ext_getElem hl fun k h1 h2 => h k h1 h2 h1

theorem nu_drewN (w : World) (n : Nat) : Nu w (w.drewN n) := Mv.drewN _ w n

set_option maxHeartbeats 4000000 in
set_option maxRecDepth 20000 in
theorem rSame_any (w : World) {B : Nat} {ao bo : Option Addr} {cap dap : Nat} (xs ys : List Int) (h : IntsAt w B ao xs) (hu : IntsAt w B bo ys) (hB : B ≤ w.heap.size) :
    Calls Try.prog 17 #[.slice ao xs.length cap, .slice bo ys.length dap] w fun r w' => r = .returned (.bool (decide (xs = ys))) ∧ Nu w w' := by
  obtain ⟨A, hA⟩ : ∃ A, decide (xs = ys) = A := ⟨_, rfl⟩
  rw [hA]
  have HA : Hid (decide (xs = ys) = A) := hA
  have hlim := h.lim
  have hlim2 := hu.lim
  have HS : Hid (IntsAt w B ao xs) := h
  have HU : Hid (IntsAt w B bo ys) := hu
  clear h hu hA
  by_cases h2 : xs.length = ys.length
  case neg =>
    have HM : Hid (A = false) := HA.out.symm.trans (decide_eq_false (fun e => h2 (congrArg List.length e)))
    have h2' : ¬ (xs.length : Int) = (ys.length : Int) := by omega
    go_enter Try.func17, Try.ntmps17
    go_wp2
    go_ret
    exact ⟨by rw [HM.out]; rfl, Mv.refl _ _⟩
  have HL : Hid (xs.length = ys.length) := h2
  rw [← h2]
  clear h2
  go_enter Try.func17, Try.ntmps17
  go_wp2
  go_loopw [5] (fun iv wr => ∃ (i : Nat), i ≤ xs.length ∧ iv = .int .i64 (i : Int) ∧ Hid (sameTo xs ys i) ∧ Nu w wr)
    (fun iv _ => xs.length - (intOf iv).toNat)
  case atStart => exact ⟨0, Nat.zero_le _, rfl, sameTo_zero _ _, Mv.refl _ _⟩
  case round =>
    obtain ⟨i, hi, rfl, HI, hbr⟩ := hrel
    have HW : Hid (Nu w wr) := hbr
    have hbb := (hbr.nu_below).mono hB
    clear hbr
    rcases Nat.lt_or_ge i xs.length with hlt | hge
    · have hlt' : (i : Int) < (xs.length : Int) := by omega
      have hltu : i < ys.length := by have := HL.out; omega
      rcases (HS.out.below hbb (Nat.le_refl _)).row with h0 | ⟨b, off, rfl, hbB, hit⟩
      · omega
      rcases (HU.out.below hbb (Nat.le_refl _)).row with h0 | ⟨b', off', rfl, hbB', hit'⟩
      · have := HL.out; omega
      have hx := hit i hlt
      have hy := hit' i hltu
      have HT : Hid (i < xs.length ∧ i < ys.length) := ⟨hlt, hltu⟩
      obtain ⟨s, HE, c0⟩ : ∃ s, Hid (xs[i]'hlt = s) ∧ wr.cell? ⟨b, off + i, none⟩ = some (.int .i64 s) := ⟨_, rfl, hx⟩
      obtain ⟨u, HF, e0⟩ : ∃ s, Hid (ys[i]'hltu = s) ∧ wr.cell? ⟨b', off' + i, none⟩ = some (.int .i64 s) := ⟨_, rfl, hy⟩
      clear hx hit hy hit' hbb
      by_cases hsu : s = u
      · have HO : Hid (sameTo xs ys (i + 1)) := sameTo_succ HT.out.1 HT.out.2 HI.out (by rw [HE.out, HF.out]; exact hsu)
        rw [← hsu] at e0
        clear hsu
        go_wp2
        go_quiet (fail)
        go_wp2
        go_roundw
        case rel => exact ⟨i + 1, HT.out.1, by go_num, HO, mv0 HW.out (nu_drewN _ _)⟩
        case measure => have := HT.out.1; simp [intOf]; omega
      · have HN : Hid (A = false) := HA.out.symm.trans (decide_eq_false (fun e => hsu (by
          rw [← HE.out, ← HF.out]
          simp only [e])))
        go_wp2
        go_quiet (fail)
        go_wp2
        go_ret
        exact ⟨by rw [HN.out]; rfl, mv0 HW.out (nu_drewN _ _)⟩
    · obtain rfl : i = xs.length := by omega
      have HM : Hid (A = true) := HA.out.symm.trans (decide_eq_true (sameTo_all HL.out HI.out))
      go_wp2
      go_ret
      exact ⟨by rw [HM.out]; rfl, HW.out⟩

end Go.Proofs.Ytmlpndcelfdlhaa
/-
  The example's graph, as the statements make it.
-/
namespace Go.Proofs.Ytmlpndcelfdlhaa
open Go.RowKit

def twoNet : List Node := [⟨[⟨1, 1, 0, [], [], 0⟩, ⟨0, 0, 1, [], [], 0⟩], 5, false, false, false⟩, ⟨[], 0, true, false, false⟩]

theorem ints_nil (w : World) (B : Nat) : IntsV w B (.slice none 0 0) [] := ⟨none, 0, rfl, by decide, .inl rfl⟩

theorem two_at {w : World} {b g : Nat} (hb : w.heap[b]? = some (.cells #[.int .i64 1, .int .i64 1, .int .i64 0, .slice none 0 0, .slice none 0 0, .int .u64 0, .int .i64 0, .int .i64 0, .int .i64 1, .slice none 0 0, .slice none 0 0, .int .u64 0] 51 (0, 0)))
    (hg : w.heap[g]? = some (.cells #[.slice (some ⟨b, 0, none⟩) 2 2, .int .u64 5, .bool false, .bool false, .bool false, .slice none 0 0, .int .u64 0, .bool true, .bool false, .bool false] 48 (0, 0))) :
    NodesAt w w.heap.size (some ⟨g, 0, none⟩) twoNet := by
  have lb := lt_of_block hb
  have lg := lt_of_block hg
  refine ⟨by decide, .inr ⟨g, 0, rfl, lg, fun i hi => ?_⟩⟩
  have c := cell_blk hg
  have d := cell_blk hb
  match i, hi with
  | 0, _ =>
    refine ⟨⟨_, c 0, some ⟨b, 0, none⟩, 2, rfl, (show (2 : Int) ≤ 17592186044416 by decide), .inr ⟨b, 0, rfl, lb, fun k hk => ?_⟩⟩, c 1, c 2, c 3, c 4⟩
    match k, hk with
    | 0, _ => exact ⟨d 0, d 1, d 2, ⟨_, d 3, ints_nil _ _⟩, ⟨_, d 4, ints_nil _ _⟩, d 5⟩
    | 1, _ => exact ⟨d 6, d 7, d 8, ⟨_, d 9, ints_nil _ _⟩, ⟨_, d 10, ints_nil _ _⟩, d 11⟩
  | 1, _ => exact ⟨⟨_, c 5, none, 0, rfl, (show (0 : Int) ≤ 17592186044416 by decide), .inl rfl⟩, c 6, c 7, c 8, c 9⟩

end Go.Proofs.Ytmlpndcelfdlhaa
/-
  States of graphs, and what is reached in the example's graph: plain data.
-/
namespace Go.Proofs.Ytmlpndcelfdlhaa

theorem txt_inj {a b : List UInt8} (h : txt a = txt b) : a = b := by
  have h1 := congrArg (fun x : ByteArray => x.data.toList) h
  simpa [txt] using h1
theorem nst_inj {k m : Nat} (hk : k < 18446744073709551616) (hm : m < 18446744073709551616) (h : nst k = nst m) : k = m :=
  enc_apart k m hk hm (by rw [← txt_inj h, List.take_length])

theorem nodeNo_some {size : Nat} {st : ByteArray} {k : Nat} (h : nodeNo size st = some k) : k < size ∧ nst k = st :=
  ⟨by have := List.mem_of_find?_eq_some h; simpa using this, by have := List.find?_some h; simpa using this⟩
theorem nodeNo_nst {size k : Nat} (hk : k < size) (hs : size ≤ 18446744073709551616) : nodeNo size (nst k) = some k := by
  cases h : nodeNo size (nst k) with
  | none =>
    have := List.find?_eq_none.1 h k (by simpa using hk)
    simp at this
  | some j =>
    obtain ⟨h1, h2⟩ := nodeNo_some h
    rw [nst_inj (by omega) (by omega) h2]
theorem nodeNo_none {size : Nat} {st : ByteArray} (h : ∀ k, k < size → nst k ≠ st) : nodeNo size st = none := by
  cases h' : nodeNo size st with
  | none => rfl
  | some j =>
    obtain ⟨h1, h2⟩ := nodeNo_some h'
    exact absurd h2 (h j h1)

theorem graph_next {ns : List Node} {k : Nat} {x : Node} (hk : ns[k]? = some x) (hs : ns.length ≤ 18446744073709551616) : (graphSem ns).next (nst k) = movsOf x.arcs := by
  have hl : k < ns.length := (List.getElem?_eq_some_iff.1 hk).1
  simp only [graphSem, nodeNo_nst hl hs, Option.bind_some, hk]
theorem graph_look {ns : List Node} {k : Nat} {x : Node} (hk : ns[k]? = some x) (hs : ns.length ≤ 18446744073709551616) : (graphSem ns).look (nst k) = ⟨x.props, x.en, x.pr, x.ac⟩ := by
  have hl : k < ns.length := (List.getElem?_eq_some_iff.1 hk).1
  simp only [graphSem, nodeNo_nst hl hs, Option.bind_some, hk]

theorem nst_zero : nst 0 = ⟨#[0]⟩ := by unfold nst; rw [encU_small (by decide)]; rfl
theorem nst_one : nst 1 = ⟨#[1]⟩ := by unfold nst; rw [encU_small (by decide)]; rfl

theorem two_may : mayN twoNet = true := by decide

theorem two_explored2 : explored (graphSem twoNet) 2 = some (twoNet, [nst 0, nst 1]) := by
  have h01 : nst 0 ≠ nst 1 := fun h => by have := nst_inj (by decide) (by decide) h; omega
  have n0 : (graphSem twoNet).next (nst 0) = [⟨1, 0, -1, -1, nst 1, 0, [], [], 0⟩, ⟨0, 1, -1, -1, ⟨#[]⟩, 1, [], [], 0⟩] := graph_next (x := ⟨[⟨1, 1, 0, [], [], 0⟩, ⟨0, 0, 1, [], [], 0⟩], 5, false, false, false⟩) rfl (by decide)
  have n1 : (graphSem twoNet).next (nst 1) = [] := graph_next (x := ⟨[], 0, true, false, false⟩) rfl (by decide)
  have l0 := graph_look (ns := twoNet) (k := 0) rfl (by decide)
  have l1 := graph_look (ns := twoNet) (k := 1) rfl (by decide)
  have p0 : plc [nst 0] (nst 1) = none := by rw [plc_none]; simpa using fun h => h01 h.symm
  have s0 : oneState (graphSem twoNet) 2 ⟨[], [nst 0], 0⟩ (nst 0) = some ⟨[⟨[⟨1, 1, 0, [], [], 0⟩, ⟨0, 0, 1, [], [], 0⟩], 5, false, false, false⟩], [nst 0, nst 1], 2⟩ := by
    simp [oneState, n0, l0, allMoves, oneMove, p0, arcOf, nodeOf]
  have s1 : oneState (graphSem twoNet) 2 ⟨[⟨[⟨1, 1, 0, [], [], 0⟩, ⟨0, 0, 1, [], [], 0⟩], 5, false, false, false⟩], [nst 0, nst 1], 2⟩ (nst 1) = some ⟨twoNet, [nst 0, nst 1], 2⟩ := by
    unfold oneState
    rw [n1, l1]
    rfl
  have hb : (graphSem twoNet).begin = nst 0 := rfl
  unfold explored
  rw [hb, explore_step (st := nst 0) rfl, s0, Option.bind_some, explore_step (st := nst 1) rfl, s1]
  rfl

theorem two_explored1 : explored (graphSem twoNet) 1 = none := by
  have h01 : nst 0 ≠ nst 1 := fun h => by have := nst_inj (by decide) (by decide) h; omega
  have n0 : (graphSem twoNet).next (nst 0) = [⟨1, 0, -1, -1, nst 1, 0, [], [], 0⟩, ⟨0, 1, -1, -1, ⟨#[]⟩, 1, [], [], 0⟩] := graph_next (x := ⟨[⟨1, 1, 0, [], [], 0⟩, ⟨0, 0, 1, [], [], 0⟩], 5, false, false, false⟩) rfl (by decide)
  have p0 : plc [nst 0] (nst 1) = none := by rw [plc_none]; simpa using fun h => h01 h.symm
  have s0 : oneState (graphSem twoNet) 1 ⟨[], [nst 0], 0⟩ (nst 0) = none := by
    simp [oneState, n0, allMoves, oneMove, p0]
  have hb : (graphSem twoNet).begin = nst 0 := rfl
  unfold explored
  rw [hb, explore_step (st := nst 0) rfl, s0]
  rfl

theorem encU_short (n : Nat) (h : n < 18446744073709551616) : (nst n).size ≤ 10 := by
  have := encU_ten h
  show (encU n).toArray.size ≤ 10
  simpa using this

end Go.Proofs.Ytmlpndcelfdlhaa
/-
  What is reached in a system, whatever the order of its moves; a graph whose arcs are turned: plain data.
-/
namespace Go.Proofs.Ytmlpndcelfdlhaa

/-- A state that is reached. -/
inductive Reach (M : Sem) : ByteArray → Prop
  | start : Reach M M.begin
  | step {s : ByteArray} {m : Mov} : Reach M s → m ∈ M.next s → m.bad = 0 → Reach M m.to

theorem oneMove_mem {most : Nat} {u u' : Und} {m : Mov} (h : oneMove most u m = some u') : (∀ s ∈ u'.states, s ∈ u.states ∨ (m.bad = 0 ∧ m.to = s)) ∧ (m.bad = 0 → m.to ∈ u'.states) ∧ (∀ s ∈ u.states, s ∈ u'.states) ∧ (u.states.Nodup → u'.states.Nodup) ∧ u'.arcs.length = u.arcs.length + 1 := by
  unfold oneMove at h
  by_cases hb : m.bad = 0
  · rw [if_pos hb] at h
    cases hp : plc u.states m.to with
    | some k =>
      rw [hp] at h
      simp only at h
      split at h
      · cases h
      · cases h
        have := plc_some hp
        exact ⟨fun s hs => .inl hs, fun _ => List.mem_of_getElem? this.1, fun s hs => hs, id, by simp⟩
    | none =>
      rw [hp] at h
      simp only at h
      split at h
      · cases h
      · split at h
        · cases h
        · cases h
          have hn := plc_none.1 hp
          refine ⟨fun s hs => ?_, fun _ => by simp, fun s hs => by simp [hs], fun hd => ?_, by simp⟩
          · rcases List.mem_append.1 hs with hs | hs
            · exact .inl hs
            · exact .inr ⟨hb, (List.mem_singleton.1 hs).symm⟩
          · simp only
            rw [List.nodup_append]
            exact ⟨hd, by simp, fun a ha b hb' e => by rw [List.mem_singleton.1 hb'] at e; exact hn (e ▸ ha)⟩
  · rw [if_neg hb] at h
    split at h
    · cases h
    · cases h
      exact ⟨fun s hs => .inl hs, fun h => absurd h hb, fun s hs => hs, id, by simp⟩

theorem allMoves_mem {most : Nat} {l : List Mov} : ∀ {u u' : Und}, allMoves most u l = some u' → (∀ s ∈ u'.states, s ∈ u.states ∨ ∃ m ∈ l, m.bad = 0 ∧ m.to = s) ∧ (∀ m ∈ l, m.bad = 0 → m.to ∈ u'.states) ∧ (∀ s ∈ u.states, s ∈ u'.states) ∧ (u.states.Nodup → u'.states.Nodup) ∧ u'.arcs.length = u.arcs.length + l.length := by
  induction l with
  | nil => intro u u' h; cases h; exact ⟨fun s hs => .inl hs, fun m hm => absurd hm (by simp), fun s hs => hs, id, rfl⟩
  | cons m r ih =>
    intro u u' h
    obtain ⟨v, h1, h2⟩ := Option.bind_eq_some_iff.1 h
    obtain ⟨a1, a2, a3, a4, a5⟩ := oneMove_mem h1
    obtain ⟨b1, b2, b3, b4, b5⟩ := ih h2
    refine ⟨fun s hs => ?_, fun m' hm' hb => ?_, fun s hs => b3 s (a3 s hs), fun hd => b4 (a4 hd), by rw [b5, a5, List.length_cons]; omega⟩
    · rcases b1 s hs with hs | ⟨m', hm', hb⟩
      · rcases a1 s hs with hs | hb
        · exact .inl hs
        · exact .inr ⟨m, by simp, hb⟩
      · exact .inr ⟨m', by simp [hm'], hb⟩
    · rcases List.mem_cons.1 hm' with rfl | hm'
      · exact b3 _ (a2 hb)
      · exact b2 m' hm' hb

/-- What is known while a system is explored. -/
structure RI (M : Sem) (x : Expl) : Prop where
  reach : ∀ s ∈ x.states, Reach M s
  closed : ∀ (i : Nat) (st : ByteArray), i < x.nodes.length → x.states[i]? = some st → ∀ m ∈ M.next st, m.bad = 0 → m.to ∈ x.states
  nodup : x.states.Nodup
  begin : M.begin ∈ x.states
  tells : ∀ (i : Nat) (st : ByteArray) (nd : Node), x.states[i]? = some st → x.nodes[i]? = some nd → nd.arcs.length = (M.next st).length ∧ nd.props = (M.look st).props
  le : x.nodes.length ≤ x.states.length

theorem pre_get {α : Type} {a b : List α} (h : a <+: b) {i : Nat} {x : α} (hx : a[i]? = some x) : b[i]? = some x := by
  obtain ⟨t, rfl⟩ := h
  rw [List.getElem?_append_left (List.getElem?_eq_some_iff.1 hx).1]
  exact hx

theorem RI.step {M : Sem} {most : Nat} {x y : Expl} {st : ByteArray} (h : RI M x) (hl : x.states.length ≤ most) (hs : x.states[x.nodes.length]? = some st) (ho : oneState M most x st = some y) : RI M y := by
  obtain ⟨u, hu, rfl⟩ := Option.map_eq_some_iff.1 ho
  obtain ⟨a1, a2, a3, a4, a5⟩ := allMoves_mem hu
  obtain ⟨b1, b2, b3⟩ := allMoves_len hu hl
  have hlt := (List.getElem?_eq_some_iff.1 hs).1
  have hst := h.reach st (List.mem_of_getElem? hs)
  have hat : ∀ {i : Nat} {s : ByteArray}, i < x.states.length → u.states[i]? = some s → x.states[i]? = some s := fun {i s} hi hx => by
    have := pre_get b2 (List.getElem?_eq_getElem hi)
    rw [this] at hx
    rw [List.getElem?_eq_getElem hi]
    exact hx
  refine ⟨fun s hs' => ?_, fun i s hi hs' m hm hb => ?_, a4 h.nodup, a3 _ h.begin, fun i s nd hs' hn => ?_, ?_⟩
  · rcases a1 s hs' with hs' | ⟨m, hm, hb, rfl⟩
    · exact h.reach s hs'
    · exact .step hst hm hb
  · simp only [List.length_append, List.length_cons, List.length_nil] at hi
    have hi' : i < x.states.length := by omega
    have hs2 := hat hi' hs'
    rcases Nat.lt_or_ge i x.nodes.length with h1 | h1
    · exact a3 _ (h.closed i s h1 hs2 m hm hb)
    · obtain rfl : i = x.nodes.length := by omega
      rw [hs] at hs2
      cases hs2
      exact a2 m hm hb
  · simp only at hs' hn
    rcases Nat.lt_or_ge i x.nodes.length with h1 | h1
    · rw [List.getElem?_append_left h1] at hn
      exact h.tells i s nd (hat (by omega) hs') hn
    · have hi : i = x.nodes.length := by
        have := (List.getElem?_eq_some_iff.1 hn).1
        simp at this
        omega
      subst hi
      rw [List.getElem?_append_right (Nat.le_refl _), Nat.sub_self] at hn
      cases hn
      have hs2 := hat hlt hs'
      rw [hs] at hs2
      cases hs2
      refine ⟨?_, rfl⟩
      show u.arcs.length = _
      rw [a5]
      simp
  · have := b2.length_le
    simp only [List.length_append, List.length_cons, List.length_nil] at this ⊢
    omega

theorem RI.run {M : Sem} {most : Nat} : ∀ {f : Nat} {x z : Expl}, RI M x → x.states.length ≤ most → most ≤ x.nodes.length + f → explore M most f x = some z → RI M z ∧ z.nodes.length = z.states.length := by
  intro f
  induction f with
  | zero =>
    intro x z h hl hf he
    cases he
    exact ⟨h, by have := h.le; omega⟩
  | succ f ih =>
    intro x z h hl hf he
    cases hs : x.states[x.nodes.length]? with
    | none =>
      rw [explore_end hs] at he
      cases he
      have := List.getElem?_eq_none_iff.1 hs
      exact ⟨h, by have := h.le; omega⟩
    | some st =>
      rw [explore_step hs] at he
      obtain ⟨y, h1, h2⟩ := Option.bind_eq_some_iff.1 he
      have hl2 := oneState_len h1 hl
      exact ih (h.step hl hs h1) hl2.1 (by rw [hl2.2.2]; omega) h2

/-- What is explored is what is reached. -/
theorem explored_reach {M : Sem} {most : Nat} {gs : List Node} {ss : List ByteArray} (h : explored M most = some (gs, ss)) (h1 : 1 ≤ most) : ss.Nodup ∧ (∀ s, s ∈ ss ↔ Reach M s) ∧ gs.length = ss.length ∧ ∀ (i : Nat) (st : ByteArray) (nd : Node), ss[i]? = some st → gs[i]? = some nd → nd.arcs.length = (M.next st).length ∧ nd.props = (M.look st).props := by
  obtain ⟨z, hz, he⟩ := Option.map_eq_some_iff.1 h
  cases he
  obtain ⟨hr, hlen⟩ := RI.run (x := ⟨[], [M.begin], 0⟩) ⟨fun s hs => by rw [List.mem_singleton.1 hs]; exact .start, fun i st hi => absurd hi (by simp), by simp, by simp, fun i st nd _ hn => absurd hn (by simp), by simp⟩ (by simpa using h1) (by simp) hz
  refine ⟨hr.nodup, fun s => ⟨hr.reach s, fun hs => ?_⟩, hlen, hr.tells⟩
  induction hs with
  | start => exact hr.begin
  | step _ hm hb ih =>
    obtain ⟨i, hi, he⟩ := List.mem_iff_getElem.1 ih
    exact hr.closed i _ (by rw [hlen]; exact hi) (by rw [List.getElem?_eq_getElem hi, he]) _ hm hb

theorem nodup_sub {α : Type} [DecidableEq α] : ∀ {a b : List α}, a.Nodup → (∀ x ∈ a, x ∈ b) → a.length ≤ b.length
  | [], _, _, _ => Nat.zero_le _
  | x :: r, b, hn, hs => by
    have hx := hs x (by simp)
    have hn' := List.nodup_cons.1 hn
    have := nodup_sub (a := r) (b := b.erase x) hn'.2 (fun y hy => by
      have hne : y ≠ x := fun e => hn'.1 (e ▸ hy)
      exact (List.mem_erase_of_ne hne).2 (hs y (by simp [hy])))
    rw [List.length_erase_of_mem hx] at this
    have hp : 0 < b.length := List.length_pos_of_mem hx
    simp only [List.length_cons]
    omega

/-- The arcs of each node the other way round, and a node more that nobody leads to. -/
def turnX (x : Node) : Node := ⟨x.arcs.reverse, x.props, x.en, x.pr, x.ac⟩
def turnN (ns : List Node) : List Node := ns.map turnX ++ [⟨[], 77, false, false, false⟩]
theorem turnN_len (ns : List Node) : (turnN ns).length = ns.length + 1 := by simp [turnN]
theorem turnN_get {ns : List Node} {k : Nat} {x : Node} (h : ns[k]? = some x) : (turnN ns)[k]? = some (turnX x) := by
  unfold turnN
  rw [List.getElem?_append_left (by rw [List.length_map]; exact (List.getElem?_eq_some_iff.1 h).1), List.getElem?_map, h]
  rfl
theorem arcB_up {n : Nat} {a : Arc} (h : arcB n a = true) : arcB (n + 1) a = true := by
  unfold arcB at h ⊢
  simp only [Bool.and_eq_true, Bool.or_eq_true, decide_eq_true_eq] at h ⊢
  obtain ⟨⟨⟨⟨⟨⟨⟨⟨h1, h2⟩, h3⟩, h4⟩, h5⟩, h6⟩, h7⟩, h8⟩, h9⟩ := h
  exact ⟨⟨⟨⟨⟨⟨⟨⟨h1, h2⟩, h3⟩, h4⟩, h5⟩, h6⟩, h7⟩, by omega⟩, h9⟩
theorem arcsIn_turn (ns : List Node) : arcsIn (turnN ns) = arcsIn ns := by
  unfold turnN
  induction ns with
  | nil => rfl
  | cons x r ih => rw [List.map_cons, List.cons_append, arcsIn, arcsIn, ih]; simp [turnX]
theorem may_turn {ns : List Node} (h : mayN ns = true) (hl : ns.length < 20000) : mayN (turnN ns) = true := by
  simp only [mayN, Bool.and_eq_true, decide_eq_true_eq, List.all_eq_true] at h ⊢
  rw [turnN_len, arcsIn_turn]
  refine ⟨⟨⟨by omega, by omega⟩, h.1.2⟩, fun x hx a ha => ?_⟩
  unfold turnN at hx
  rcases List.mem_append.1 hx with hx | hx
  · obtain ⟨y, hy, rfl⟩ := List.mem_map.1 hx
    exact arcB_up (h.2 y hy a (by simpa [turnX] using ha))
  · rw [List.mem_singleton.1 hx] at ha
    simp at ha

theorem movs_mem {l : List Arc} {t : ByteArray} : (∃ m ∈ movsOf l, m.bad = 0 ∧ m.to = t) ↔ ∃ a ∈ l, a.bad = 0 ∧ nst a.to.toNat = t := by
  unfold movsOf
  constructor
  · rintro ⟨m, hm, hb, ht⟩
    obtain ⟨i, hi, he⟩ := List.mem_iff_getElem.1 hm
    rw [List.getElem_zipWith] at he
    subst he
    simp only [movOf] at hb ht
    rw [if_pos hb] at ht
    exact ⟨_, List.getElem_mem _, hb, ht⟩
  · rintro ⟨a, ha, hb, ht⟩
    obtain ⟨i, hi, rfl⟩ := List.mem_iff_getElem.1 ha
    refine ⟨movOf i l[i], List.mem_iff_getElem.2 ⟨i, by simpa using hi, by simp⟩, hb, ?_⟩
    simp only [movOf]
    rw [if_pos hb]
    exact ht

/-- The nodes that are reached are the same. -/
theorem turn_reach {ns : List Node} (hm : mayN ns = true) (hl : ns.length < 20000) : (∀ s, Reach (graphSem ns) s → Reach (graphSem (turnN ns)) s ∧ ∃ k, k < ns.length ∧ s = nst k) ∧ (∀ s, Reach (graphSem (turnN ns)) s → Reach (graphSem ns) s) := by
  have hmm := hm
  simp only [mayN, Bool.and_eq_true, decide_eq_true_eq, List.all_eq_true] at hmm
  have h1 : 1 ≤ ns.length := hmm.1.1.1
  have hto : ∀ {k : Nat} {x : Node} {a : Arc}, ns[k]? = some x → a ∈ x.arcs → a.bad = 0 → a.to.toNat < ns.length := fun {k x a} hx ha hb => by
    have := hmm.2 x (List.mem_of_getElem? hx) a ha
    unfold arcB at this
    simp only [Bool.and_eq_true, decide_eq_true_eq] at this
    obtain ⟨⟨⟨_, h7⟩, h8⟩, _⟩ := this
    omega
  have key : ∀ {k : Nat} {x : Node}, ns[k]? = some x → (graphSem ns).next (nst k) = movsOf x.arcs ∧ (graphSem (turnN ns)).next (nst k) = movsOf x.arcs.reverse := fun {k x} hx => ⟨graph_next hx (by omega), graph_next (turnN_get hx) (by rw [turnN_len]; omega)⟩
  constructor
  · intro s hs
    induction hs with
    | start => exact ⟨.start, 0, h1, rfl⟩
    | step _ hm' hb ih =>
      rename_i s' m _
      obtain ⟨hr, k, hk, rfl⟩ := ih
      have hx := List.getElem?_eq_getElem hk
      obtain ⟨e1, e2⟩ := key hx
      rw [e1] at hm'
      obtain ⟨a, ha, hab, hat⟩ := movs_mem.1 ⟨m, hm', hb, rfl⟩
      obtain ⟨m2, hm2, hb2, ht2⟩ := movs_mem.2 ⟨a, List.mem_reverse.2 ha, hab, hat⟩
      refine ⟨?_, a.to.toNat, hto hx ha hab, hat.symm⟩
      rw [← ht2]
      exact .step hr (by rw [e2]; exact hm2) hb2
  · have both : ∀ s, Reach (graphSem (turnN ns)) s → Reach (graphSem ns) s ∧ ∃ k, k < ns.length ∧ s = nst k := by
      intro s hs
      induction hs with
      | start => exact ⟨.start, 0, h1, rfl⟩
      | step _ hm' hb ih =>
        rename_i s' m _
        obtain ⟨hr, k, hk, rfl⟩ := ih
        have hx := List.getElem?_eq_getElem hk
        obtain ⟨e1, e2⟩ := key hx
        rw [e2] at hm'
        obtain ⟨a, ha, hab, hat⟩ := movs_mem.1 ⟨m, hm', hb, rfl⟩
        have ha' := List.mem_reverse.1 ha
        obtain ⟨m2, hm2, hb2, ht2⟩ := movs_mem.2 ⟨a, ha', hab, hat⟩
        refine ⟨?_, a.to.toNat, hto hx ha' hab, hat.symm⟩
        rw [← ht2]
        exact .step hr (by rw [e1]; exact hm2) hb2
    exact fun s hs => (both s hs).1

/-- What NetTurned asks. -/
theorem turn_same {ns : List Node} (hm : mayN ns = true) (hl : ns.length < 20000) {gs ks : List Node} {a b : List ByteArray} (h1 : explored (graphSem ns) 20000 = some (gs, a)) (h2 : explored (graphSem (turnN ns)) 20000 = some (ks, b)) :
    a.length = b.length ∧ gs.length = ks.length ∧ gs.length = a.length ∧ ∀ (j : Nat) (hj : j < a.length) (hg : j < gs.length), ∃ (i : Nat) (hi : i < b.length) (hk : i < ks.length), b[i] = a[j] ∧ gs[j].arcs.length = ks[i].arcs.length ∧ gs[j].props = ks[i].props := by
  obtain ⟨n1, r1, l1, t1⟩ := explored_reach h1 (by decide)
  obtain ⟨n2, r2, l2, t2⟩ := explored_reach h2 (by decide)
  obtain ⟨f1, f2⟩ := turn_reach hm hl
  have hab : ∀ s ∈ a, s ∈ b := fun s hs => (r2 s).2 (f1 s ((r1 s).1 hs)).1
  have hba : ∀ s ∈ b, s ∈ a := fun s hs => (r1 s).2 (f2 s ((r2 s).1 hs))
  have hlen : a.length = b.length := Nat.le_antisymm (nodup_sub n1 hab) (nodup_sub n2 hba)
  refine ⟨hlen, by omega, l1, fun j hj hg => ?_⟩
  obtain ⟨i, hi, he⟩ := List.mem_iff_getElem.1 (hab a[j] (List.getElem_mem hj))
  have hk : i < ks.length := by omega
  obtain ⟨_, k, hkn, hs⟩ := f1 a[j] ((r1 _).1 (List.getElem_mem hj))
  have hx := List.getElem?_eq_getElem hkn
  have hsz : ns.length ≤ 18446744073709551616 := by omega
  obtain ⟨p1, p2⟩ := t1 j a[j] gs[j] (List.getElem?_eq_getElem hj) (List.getElem?_eq_getElem hg)
  obtain ⟨q1, q2⟩ := t2 i a[j] ks[i] (by rw [List.getElem?_eq_getElem hi, he]) (List.getElem?_eq_getElem hk)
  rw [hs, graph_next hx hsz] at p1
  rw [hs, graph_look hx hsz] at p2
  rw [hs, graph_next (turnN_get hx) (by rw [turnN_len]; omega)] at q1
  rw [hs, graph_look (turnN_get hx) (by rw [turnN_len]; omega)] at q2
  refine ⟨i, hi, hk, he, ?_, by rw [p2, q2]; rfl⟩
  rw [p1, q1]
  simp [movsOf, turnX]

end Go.Proofs.Ytmlpndcelfdlhaa
/-
  Are two graphs the same: what the reference's Nets answers.
-/
namespace Go.Proofs.Ytmlpndcelfdlhaa
open Go.RowKit

theorem arc_cases (p q : Arc) : (¬ p.reads = q.reads) ∨ (p.reads = q.reads ∧ ¬ p.writes = q.writes) ∨ (p.reads = q.reads ∧ p.writes = q.writes ∧ ¬ p.proc = q.proc) ∨ (p.reads = q.reads ∧ p.writes = q.writes ∧ p.proc = q.proc ∧ ¬ p.to = q.to) ∨
    (p.reads = q.reads ∧ p.writes = q.writes ∧ p.proc = q.proc ∧ p.to = q.to ∧ ¬ p.bad = q.bad) ∨ (p.reads = q.reads ∧ p.writes = q.writes ∧ p.proc = q.proc ∧ p.to = q.to ∧ p.bad = q.bad ∧ ¬ p.turns = q.turns) ∨ p = q := by
  rcases p with ⟨a, b, c, d, e, f⟩
  rcases q with ⟨a', b', c', d', e', f'⟩
  simp only [Arc.mk.injEq]
  by_cases h1 : d = d'
  · by_cases h2 : e = e'
    · simp only [h1, h2, true_and, not_true, false_or]; omega
    · exact .inr (.inl ⟨h1, h2⟩)
  · exact .inl h1

theorem node_cases (p q : Node) : (¬ p.props = q.props) ∨ (p.props = q.props ∧ ¬ p.en = q.en) ∨ (p.props = q.props ∧ p.en = q.en ∧ ¬ p.pr = q.pr) ∨ (p.props = q.props ∧ p.en = q.en ∧ p.pr = q.pr ∧ ¬ p.ac = q.ac) ∨
    (p.props = q.props ∧ p.en = q.en ∧ p.pr = q.pr ∧ p.ac = q.ac ∧ ¬ p.arcs.length = q.arcs.length) ∨ (p.props = q.props ∧ p.en = q.en ∧ p.pr = q.pr ∧ p.ac = q.ac ∧ p.arcs.length = q.arcs.length) := by
  by_cases h1 : p.props = q.props <;> by_cases h2 : p.en = q.en <;> by_cases h3 : p.pr = q.pr <;> by_cases h4 : p.ac = q.ac <;> by_cases h5 : p.arcs.length = q.arcs.length <;> simp [h1, h2, h3, h4, h5]

theorem node_eq {p q : Node} (h1 : p.props = q.props) (h2 : p.en = q.en) (h3 : p.pr = q.pr) (h4 : p.ac = q.ac) (h5 : p.arcs = q.arcs) : p = q := by
  rcases p with ⟨a, b, c, d, e⟩
  rcases q with ⟨a', b', c', d', e'⟩
  simp_all

theorem bool_not {a b : Bool} (h : ¬ a = b) : b = !a := by cases a <;> cases b <;> simp_all

/-- A box of one cell. -/
theorem box_new (w : World) (v : Value) (t : TypeId) : (w.alloc (.cells #[v] t)).heap[w.heap.size]? = some (.cells #[v] t (0, 0)) := heap_alloc_new w _

set_option maxHeartbeats 8000000 in
set_option maxRecDepth 40000 in
theorem rNets_any (w : World) {B : Nat} {ao bo : Option Addr} {cap dap : Nat} (ns ms : List Node) (h : NodesAt w B ao ns) (hu : NodesAt w B bo ms) (hB : B ≤ w.heap.size) :
    Calls Try.prog 8 #[.agg #[.slice ao ns.length cap], .agg #[.slice bo ms.length dap]] w fun r w' => r = .returned (.bool (decide (ns = ms))) ∧ Nu w w' := by
  obtain ⟨A, hA⟩ : ∃ A, decide (ns = ms) = A := ⟨_, rfl⟩
  rw [hA]
  have HA : Hid (decide (ns = ms) = A) := hA
  have HB1 : Hid (Nu w ((w.alloc (.cells #[.slice ao ns.length cap] 24)).alloc (.cells #[.slice bo ms.length dap] 24))) := mv0 (Mv.alloc _ _ _) (Mv.alloc _ _ _)
  have hlim := h.lim
  have hlim2 := hu.lim
  have HS : Hid (NodesAt w B ao ns) := h
  have HU : Hid (NodesAt w B bo ms) := hu
  clear h hu hA
  by_cases h2 : ns.length = ms.length
  case neg =>
    have HM : Hid (A = false) := HA.out.symm.trans (decide_eq_false (fun e => h2 (congrArg List.length e)))
    have h2' : ¬ (ns.length : Int) = (ms.length : Int) := by omega
    go_enter Try.func8, Try.ntmps8
    go_wp2
    go_ret
    exact ⟨by rw [HM.out]; rfl, HB1.out⟩
  have HL : Hid (ns.length = ms.length) := h2
  rw [← h2]
  rw [← h2] at HB1
  clear h2
  go_enter Try.func8, Try.ntmps8
  go_wp2
  have HX : Hid (((w.alloc (.cells #[.slice ao ns.length cap] 24)).alloc (.cells #[.slice bo ns.length dap] 24)).cell? ⟨w.heap.size, 0, none⟩ = some (.slice ao ns.length cap) ∧ ((w.alloc (.cells #[.slice ao ns.length cap] 24)).alloc (.cells #[.slice bo ns.length dap] 24)).cell? ⟨w.heap.size + 1, 0, none⟩ = some (.slice bo ns.length dap)) := by
    refine ⟨cell_mv (Mv.alloc (fun _ => False) _ _) (cell_blk (box_new w _ _) 0) id, ?_⟩
    have := cell_blk (box_new (w.alloc (.cells #[.slice ao ns.length cap] 24)) (.slice bo ns.length dap) 24) 0
    rw [World.size_alloc] at this
    exact this
  generalize hW1 : (w.alloc (.cells #[.slice ao ns.length cap] 24)).alloc (.cells #[.slice bo ns.length dap] 24) = W1 at *
  clear hW1
  go_loopw [5] (fun iv wr => ∃ (i : Nat), i ≤ ns.length ∧ iv = .int .i64 (i : Int) ∧ Hid (sameTo ns ms i) ∧ Nu W1 wr)
    (fun iv _ => ns.length - (intOf iv).toNat)
  case atStart => exact ⟨0, Nat.zero_le _, rfl, sameTo_zero _ _, Mv.refl _ _⟩
  case round =>
    obtain ⟨i, hi, rfl, HI, hbr1⟩ := hrel
    have HR : Hid (Nu W1 wr) := hbr1
    have hbr : Nu w wr := mv0 HB1.out hbr1
    have HW : Hid (Nu w wr) := hbr
    have d0 := cell_mv hbr1 HX.out.1 id
    have d1 := cell_mv hbr1 HX.out.2 id
    have hbb : Below B w wr := hbr.nu_below.mono hB
    clear hbr1 hbr
    rcases Nat.lt_or_ge i ns.length with hlt | hge
    case inr =>
      obtain rfl : i = ns.length := by omega
      have HM : Hid (A = true) := HA.out.symm.trans (decide_eq_true (sameTo_all HL.out HI.out))
      clear d1
      go_wp2
      go_ret
      exact ⟨by rw [HM.out]; rfl, HW.out⟩
    have hlt' : (i : Int) < (ns.length : Int) := by omega
    have hltu : i < ms.length := by have := HL.out; omega
    rcases (HS.out.below hbb (Nat.le_refl _)).row with h0 | ⟨b, off, rfl, hbB, hit⟩
    · omega
    rcases (HU.out.below hbb (Nat.le_refl _)).row with h0 | ⟨b', off', rfl, hbB', hit'⟩
    · have := HL.out; omega
    have HT : Hid (i < ns.length ∧ i < ms.length) := ⟨hlt, hltu⟩
    obtain ⟨x, HE, hx⟩ : ∃ x, Hid (ns[i]'hlt = x) ∧ NodeAt wr B b (off + i * 5) x := ⟨_, rfl, hit i hlt⟩
    obtain ⟨y, HF, hy⟩ : ∃ y, Hid (ms[i]'hltu = y) ∧ NodeAt wr B b' (off' + i * 5) y := ⟨_, rfl, hit' i hltu⟩
    obtain ⟨_, c0, xo, xc, rfl, hxa⟩ := hx.c0
    obtain ⟨_, e0, yo, yc, rfl, hya⟩ := hy.c0
    have c1 := hx.c1
    have c2 := hx.c2
    have c3 := hx.c3
    have c4 := hx.c4
    have e1 := hy.c1
    have e2 := hy.c2
    have e3 := hy.c3
    have e4 := hy.c4
    have HN : Hid (¬ x = y → A = false) := fun hne => HA.out.symm.trans (decide_eq_false (fun e => hne (by rw [← HE.out, ← HF.out]; simp only [e])))
    have HXY : Hid (ArcsAt wr B xo x.arcs ∧ ArcsAt wr B yo y.arcs) := ⟨hxa, hya⟩
    have hl1 := hxa.lim
    have hl2 := hya.lim
    clear hx hy hit hit' hbb hxa hya
    have hz1 : w.heap.size + 1 < wr.heap.size := World.block_lt_of_cell? wr _ d1
    have hz0 : w.heap.size < wr.heap.size := by omega
    have hzb : b < wr.heap.size := World.block_lt_of_cell? wr _ c1
    have hzb' : b' < wr.heap.size := World.block_lt_of_cell? wr _ e1
    have hnu : ∀ o o', Nu wr ((wr.alloc o).alloc o') := fun o o' => mv0 (Mv.alloc _ _ _) (Mv.alloc _ _ _)
    have HNU : Hid _ := hnu
    clear hnu
    rcases node_cases x y with hh | ⟨h1, hh⟩ | ⟨h1, h2, hh⟩ | ⟨h1, h2, h3, hh⟩ | ⟨h1, h2, h3, h4, hh⟩ | ⟨h1, h2, h3, h4, h5⟩
    · have HM : Hid (A = false) := HN.out (fun e => hh (by rw [e]))
      go_wp2
      go_ret
      exact ⟨by rw [HM.out]; rfl, mv0 HW.out (HNU.out _ _)⟩
    · have HM : Hid (A = false) := HN.out (fun e => hh (by rw [e]))
      rw [← h1] at e1
      rw [bool_not hh] at e2
      clear h1 hh
      go_wp2
      go_ret
      exact ⟨by rw [HM.out]; rfl, mv0 HW.out (HNU.out _ _)⟩
    · have HM : Hid (A = false) := HN.out (fun e => hh (by rw [e]))
      rw [← h1] at e1
      rw [← h2] at e2
      rw [bool_not hh] at e3
      clear h1 h2 hh
      go_wp2
      go_ret
      exact ⟨by rw [HM.out]; rfl, mv0 HW.out (HNU.out _ _)⟩
    · have HM : Hid (A = false) := HN.out (fun e => hh (by rw [e]))
      rw [← h1] at e1
      rw [← h2] at e2
      rw [← h3] at e3
      rw [bool_not hh] at e4
      clear h1 h2 h3 hh
      go_wp2
      go_ret
      exact ⟨by rw [HM.out]; rfl, mv0 HW.out (HNU.out _ _)⟩
    · have HM : Hid (A = false) := HN.out (fun e => hh (by rw [e]))
      rw [← h1] at e1
      rw [← h2] at e2
      rw [← h3] at e3
      rw [← h4] at e4
      have hh' : ¬ (x.arcs.length : Int) = (y.arcs.length : Int) := by omega
      clear h1 h2 h3 h4 hh
      go_wp2
      go_ret
      exact ⟨by rw [HM.out]; rfl, mv0 HW.out (HNU.out _ _)⟩
    have HQ : Hid (x.props = y.props ∧ x.en = y.en ∧ x.pr = y.pr ∧ x.ac = y.ac ∧ x.arcs.length = y.arcs.length) := ⟨h1, h2, h3, h4, h5⟩
    rw [← h1] at e1
    rw [← h2] at e2
    rw [← h3] at e3
    rw [← h4] at e4
    rw [← h5] at e0
    clear h1 h2 h3 h4 h5
    have HY : Hid (∀ (v1 v2 : Value) (l1 l2 : List Value), ((wr.alloc (.cells (v1 :: l1).toArray 48)).alloc (.cells (v2 :: l2).toArray 48)).cell? ⟨wr.heap.size, 0, none⟩ = some v1 ∧ ((wr.alloc (.cells (v1 :: l1).toArray 48)).alloc (.cells (v2 :: l2).toArray 48)).cell? ⟨wr.heap.size + 1, 0, none⟩ = some v2) := by
      intro v1 v2 l1 l2
      refine ⟨cell_mv (Mv.alloc (fun _ => False) _ _) (by rw [cell_blk (heap_alloc_new wr _)]; rfl) id, ?_⟩
      have := cell_blk (heap_alloc_new (wr.alloc (.cells (v1 :: l1).toArray 48)) (.cells (v2 :: l2).toArray 48)) 0
      rw [World.size_alloc] at this
      rw [this]; rfl
    go_wp2
    have hyy := HY.out (.slice xo x.arcs.length xc) (.slice yo x.arcs.length yc) [.int .u64 x.props, .bool x.en, .bool x.pr, .bool x.ac] [.int .u64 x.props, .bool x.en, .bool x.pr, .bool x.ac]
    have hnn := HNU.out (.cells #[.slice xo x.arcs.length xc, .int .u64 x.props, .bool x.en, .bool x.pr, .bool x.ac] 48) (.cells #[.slice yo x.arcs.length yc, .int .u64 x.props, .bool x.en, .bool x.pr, .bool x.ac] 48)
    have HYY : Hid _ := hyy
    have HNN : Hid _ := hnn
    clear hyy hnn HY HNU c0 c1 c2 c3 c4 e0 e1 e2 e3 e4 d0 d1
    generalize (wr.alloc (.cells #[.slice xo x.arcs.length xc, .int .u64 x.props, .bool x.en, .bool x.pr, .bool x.ac] 48)).alloc (.cells #[.slice yo x.arcs.length yc, .int .u64 x.props, .bool x.en, .bool x.pr, .bool x.ac] 48) = W3 at *
    have HZ : Hid (B ≤ wr.heap.size) := by have := HW.out.size; show _ ≤ _; omega
    go_loopw [8] (fun kv wk => ∃ (k : Nat), k ≤ x.arcs.length ∧ kv = .int .i64 (k : Int) ∧ Hid (sameTo x.arcs y.arcs k) ∧ Nu W3 wk)
      (fun kv _ => x.arcs.length - (intOf kv).toNat)
    case atStart => exact ⟨0, Nat.zero_le _, rfl, sameTo_zero _ _, Mv.refl _ _⟩
    case round =>
      rename World => wk
      obtain ⟨k, hk, rfl, HK, hnk⟩ := hrel
      have HNK : Hid (Nu wr wk) := mv0 HNN.out hnk
      have HWK : Hid (Nu w wk) := mv0 HW.out HNK.out
      have g0 := cell_mv hnk HYY.out.1 id
      have g1 := cell_mv hnk HYY.out.2 id
      have hbk : Below B wr wk := HNK.out.nu_below.mono HZ.out
      have HRK : Hid (Nu W3 wk) := hnk
      clear hnk
      rcases Nat.lt_or_ge k x.arcs.length with hkl | hkg
      case inr =>
        obtain rfl : k = x.arcs.length := by omega
        have HO : Hid (sameTo ns ms (i + 1)) := sameTo_succ HT.out.1 HT.out.2 HI.out (by
          rw [HE.out, HF.out]
          exact node_eq HQ.out.1 HQ.out.2.1 HQ.out.2.2.1 HQ.out.2.2.2.1 (sameTo_all HQ.out.2.2.2.2 HK.out))
        have HRR : Hid (Nu W1 wk) := mv0 HR.out HNK.out
        clear g1 hbk
        go_wp2
        go_roundw
        case rel => exact ⟨i + 1, HT.out.1, by go_num, HO, HRR.out⟩
        case measure => have := HT.out.1; simp [intOf]; omega
      have hkl' : (k : Int) < (x.arcs.length : Int) := by omega
      have hku : k < y.arcs.length := by have := HQ.out.2.2.2.2; omega
      rcases (HXY.out.1.below hbk (Nat.le_refl _)).row with h0 | ⟨pb, po, rfl, hpB, pit⟩
      · omega
      rcases (HXY.out.2.below hbk (Nat.le_refl _)).row with h0 | ⟨qb, qo, rfl, hqB, qit⟩
      · have := HQ.out.2.2.2.2; omega
      have HKT : Hid (k < x.arcs.length ∧ k < y.arcs.length) := ⟨hkl, hku⟩
      obtain ⟨p, HP, hp⟩ : ∃ p, Hid (x.arcs[k]'hkl = p) ∧ ArcAt wk B pb (po + k * 6) p := ⟨_, rfl, pit k hkl⟩
      obtain ⟨q, HQQ, hq⟩ : ∃ q, Hid (y.arcs[k]'hku = q) ∧ ArcAt wk B qb (qo + k * 6) q := ⟨_, rfl, qit k hku⟩
      obtain ⟨_, p3, pro, prc, rfl, pri⟩ := hp.c3
      obtain ⟨_, p4, pwo, pwc, rfl, pwi⟩ := hp.c4
      obtain ⟨_, q3, qro, qrc, rfl, qri⟩ := hq.c3
      obtain ⟨_, q4, qwo, qwc, rfl, qwi⟩ := hq.c4
      have p0 := hp.c0
      have p1 := hp.c1
      have p2 := hp.c2
      have p5 := hp.c5
      have q0 := hq.c0
      have q1 := hq.c1
      have q2 := hq.c2
      have q5 := hq.c5
      have hz1k : wr.heap.size + 1 < wk.heap.size := World.block_lt_of_cell? wk _ g1
      have hz0k : wr.heap.size < wk.heap.size := by omega
      have hzp : pb < wk.heap.size := World.block_lt_of_cell? wk _ p0
      have hzq : qb < wk.heap.size := World.block_lt_of_cell? wk _ q0
      have HNA : Hid (¬ p = q → A = false) := fun hne => HN.out (fun e => hne (by rw [← HP.out, ← HQQ.out]; simp only [e]))
      have HSA : Hid (p = q → sameTo x.arcs y.arcs (k + 1)) := fun e => sameTo_succ HKT.out.1 HKT.out.2 HK.out (by rw [HP.out, HQQ.out]; exact e)
      have HIN : Hid (IntsAt wk B pro p.reads ∧ IntsAt wk B pwo p.writes ∧ IntsAt wk B qro q.reads ∧ IntsAt wk B qwo q.writes) := ⟨pri, pwi, qri, qwi⟩
      have HNU2 : Hid (∀ o o', Nu wk ((wk.alloc o).alloc o')) := fun o o' => mv0 (Mv.alloc _ _ _) (Mv.alloc _ _ _)
      have HBX : Hid (∀ (l1 l2 : List Value) (i : Nat), ((wk.alloc (.cells l1.toArray 51)).alloc (.cells l2.toArray 51)).cell? ⟨wk.heap.size, i, none⟩ = l1[i]? ∧ ((wk.alloc (.cells l1.toArray 51)).alloc (.cells l2.toArray 51)).cell? ⟨wk.heap.size + 1, i, none⟩ = l2[i]?) := by
        intro l1 l2 i
        refine ⟨?_, ?_⟩
        · rw [cell_blk ((Mv.alloc (fun _ => False) _ _).heap (heap_alloc_new wk _) id)]; simp
        · have := cell_blk (heap_alloc_new (wk.alloc (.cells l1.toArray 51)) (.cells l2.toArray 51)) i
          rw [World.size_alloc] at this
          rw [this]; simp
      clear hp hq pit qit pri pwi qri qwi hbk hpB hqB
      go_wp2_with fail
      have hb := HBX.out [.int .i64 p.proc, .int .i64 p.to, .int .i64 p.bad, .slice pro p.reads.length prc, .slice pwo p.writes.length pwc, .int .u64 p.turns] [.int .i64 q.proc, .int .i64 q.to, .int .i64 q.bad, .slice qro q.reads.length qrc, .slice qwo q.writes.length qwc, .int .u64 q.turns]
      have hn4 := HNU2.out (.cells #[.int .i64 p.proc, .int .i64 p.to, .int .i64 p.bad, .slice pro p.reads.length prc, .slice pwo p.writes.length pwc, .int .u64 p.turns] 51) (.cells #[.int .i64 q.proc, .int .i64 q.to, .int .i64 q.bad, .slice qro q.reads.length qrc, .slice qwo q.writes.length qwc, .int .u64 q.turns] 51)
      have HN4 : Hid _ := hn4
      have HB4 : Hid _ := hb
      clear hb hn4 HBX HNU2 p0 p1 p2 p3 p4 p5 q0 q1 q2 q3 q4 q5 g0 g1
      generalize (wk.alloc (.cells #[.int .i64 p.proc, .int .i64 p.to, .int .i64 p.bad, .slice pro p.reads.length prc, .slice pwo p.writes.length pwc, .int .u64 p.turns] 51)).alloc (.cells #[.int .i64 q.proc, .int .i64 q.to, .int .i64 q.bad, .slice qro q.reads.length qrc, .slice qwo q.writes.length qwc, .int .u64 q.turns] 51) = W4 at *
      have HZ4 : Hid (B ≤ wk.heap.size ∧ B ≤ W4.heap.size) := by
        have h1 := HZ.out
        have h2 := HNK.out.size
        have h3 := HN4.out.size
        exact ⟨by omega, by omega⟩
      have HI4 : Hid (IntsAt W4 B pro p.reads ∧ IntsAt W4 B pwo p.writes ∧ IntsAt W4 B qro q.reads ∧ IntsAt W4 B qwo q.writes) := by
        have hb := HN4.out.nu_below.mono HZ4.out.1
        exact ⟨HIN.out.1.below hb (Nat.le_refl _), HIN.out.2.1.below hb (Nat.le_refl _), HIN.out.2.2.1.below hb (Nat.le_refl _), HIN.out.2.2.2.below hb (Nat.le_refl _)⟩
      refine (rSame_any W4 p.reads q.reads HI4.out.1 HI4.out.2.2.1 HZ4.out.2).mono ?_
      rintro r w5 ⟨rfl, hn5⟩
      have p4 := cell_mv hn5 (HB4.out 4).1 id
      have q4 := cell_mv hn5 (HB4.out 4).2 id
      have HN5 : Hid (Nu W4 w5) := hn5
      clear hn5
      go_wp2_with fail
      have HB5 := HN5.out.nu_below.mono HZ4.out.2
      refine (rSame_any w5 p.writes q.writes (HI4.out.2.1.below HB5 (Nat.le_refl _)) (HI4.out.2.2.2.below HB5 (Nat.le_refl _)) (by have := HZ4.out.2; have := HN5.out.size; omega)).mono ?_
      rintro r w6 ⟨rfl, hn6⟩
      have hn46 := mv0 HN5.out hn6
      clear p4 q4 HB5
      have p0 := cell_mv hn46 (HB4.out 0).1 id
      have p1 := cell_mv hn46 (HB4.out 1).1 id
      have p2 := cell_mv hn46 (HB4.out 2).1 id
      have p5 := cell_mv hn46 (HB4.out 5).1 id
      have q0 := cell_mv hn46 (HB4.out 0).2 id
      have q1 := cell_mv hn46 (HB4.out 1).2 id
      have q2 := cell_mv hn46 (HB4.out 2).2 id
      have q5 := cell_mv hn46 (HB4.out 5).2 id
      have HN6 : Hid (Nu wk w6) := mv0 HN4.out hn46
      clear hn6 hn46 HB4 HI4 HIN
      generalize hA1 : decide (p.reads = q.reads) = A1
      generalize hA2 : decide (p.writes = q.writes) = A2
      rcases arc_cases p q with hh | ⟨h1, hh⟩ | ⟨h1, h2, hh⟩ | ⟨h1, h2, h3, hh⟩ | ⟨h1, h2, h3, h4, hh⟩ | ⟨h1, h2, h3, h4, h5, hh⟩ | hpq
      · have HM : Hid (A = false) := HNA.out (fun e => hh (by rw [e]))
        obtain rfl : A1 = false := by rw [← hA1]; exact decide_eq_false hh
        clear hA1 hA2 hh
        go_wp2
        go_ret
        exact ⟨by rw [HM.out]; rfl, mv0 HWK.out HN6.out⟩
      · have HM : Hid (A = false) := HNA.out (fun e => hh (by rw [e]))
        obtain rfl : A1 = true := by rw [← hA1]; exact decide_eq_true h1
        obtain rfl : A2 = false := by rw [← hA2]; exact decide_eq_false hh
        clear hA1 hA2 hh h1
        go_wp2
        go_ret
        exact ⟨by rw [HM.out]; rfl, mv0 HWK.out HN6.out⟩
      · have HM : Hid (A = false) := HNA.out (fun e => hh (by rw [e]))
        obtain rfl : A1 = true := by rw [← hA1]; exact decide_eq_true h1
        obtain rfl : A2 = true := by rw [← hA2]; exact decide_eq_true h2
        clear hA1 hA2 h1 h2
        go_wp2
        go_ret
        exact ⟨by rw [HM.out]; rfl, mv0 HWK.out HN6.out⟩
      · have HM : Hid (A = false) := HNA.out (fun e => hh (by rw [e]))
        obtain rfl : A1 = true := by rw [← hA1]; exact decide_eq_true h1
        obtain rfl : A2 = true := by rw [← hA2]; exact decide_eq_true h2
        rw [← h3] at q0
        clear hA1 hA2 h1 h2 h3
        go_wp2
        go_ret
        exact ⟨by rw [HM.out]; rfl, mv0 HWK.out HN6.out⟩
      · have HM : Hid (A = false) := HNA.out (fun e => hh (by rw [e]))
        obtain rfl : A1 = true := by rw [← hA1]; exact decide_eq_true h1
        obtain rfl : A2 = true := by rw [← hA2]; exact decide_eq_true h2
        rw [← h3] at q0
        rw [← h4] at q1
        clear hA1 hA2 h1 h2 h3 h4
        go_wp2
        go_ret
        exact ⟨by rw [HM.out]; rfl, mv0 HWK.out HN6.out⟩
      · have HM : Hid (A = false) := HNA.out (fun e => hh (by rw [e]))
        obtain rfl : A1 = true := by rw [← hA1]; exact decide_eq_true h1
        obtain rfl : A2 = true := by rw [← hA2]; exact decide_eq_true h2
        rw [← h3] at q0
        rw [← h4] at q1
        rw [← h5] at q2
        clear hA1 hA2 h1 h2 h3 h4 h5
        go_wp2
        go_ret
        exact ⟨by rw [HM.out]; rfl, mv0 HWK.out HN6.out⟩
      · have HO : Hid (sameTo x.arcs y.arcs (k + 1)) := HSA.out hpq
        obtain rfl : A1 = true := by rw [← hA1]; exact decide_eq_true (by rw [hpq])
        obtain rfl : A2 = true := by rw [← hA2]; exact decide_eq_true (by rw [hpq])
        rw [← hpq] at q0 q1 q2 q5
        have HRN : Hid (Nu W3 w6) := mv0 HRK.out HN6.out
        clear hA1 hA2 hpq
        go_wp2
        go_roundw
        case rel => exact ⟨k + 1, HKT.out.1, by go_num, HO, HRN.out⟩
        case measure => have := HKT.out.1; simp [intOf]; omega

end Go.Proofs.Ytmlpndcelfdlhaa
