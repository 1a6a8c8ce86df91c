/-
  NSame, NTwo, NGraph2.
-/
import Derived.BigQuiet
import Derived.Deep.QuietTactic
import Derived.Deep.RegionWith
import Derived.WalkKit
import Derived.WalkLawsBesides
import Derived.WalkSpells
import Derived.Test.YtcpgpiokjghcnaaM2
import Derived.Test.YtcpgpiokjghcnaaM5
import Derived.Test.YtcpgpiokjghcnaaM8
/-
  Are two lists of numbers the same: what the reference's Same answers.
-/
namespace Go.Proofs.Ytcpgpiokjghcnaa
open Go.RowKit

def sameTo {α : Type} (ss us : List α) (i : Nat) : Prop := ∀ k (h : k < ss.length) (h' : k < us.length), k < i → ss[k] = us[k]
theorem sameTo_zero {α : Type} (ss us : List α) : sameTo ss us 0 := fun _ _ _ h => absurd h (Nat.not_lt_zero _)
theorem sameTo_succ {α : Type} {ss us : List α} {i : Nat} (hi : i < ss.length) (hu : i < us.length) (h : sameTo ss us i) (hs : ss[i] = us[i]) : sameTo ss us (i + 1) := fun k hk hk' hl => by
  rcases Nat.lt_or_ge k i with h1 | h1
  · exact h k hk hk' h1
  · obtain rfl : k = i := by omega
    exact hs
theorem sameTo_all {α : Type} {ss us : List α} (hl : ss.length = us.length) (h : sameTo ss us ss.length) : ss = us :=
  List.ext_getElem hl fun k h1 h2 => h k h1 h2 h1

theorem nu_drewN (w : World) (n : Nat) : Nu w (w.drewN n) := Mv.drewN _ w n

set_option maxHeartbeats 4000000 in
set_option maxRecDepth 20000 in
theorem rSame_any (w : World) {B : Nat} {ao bo : Option Addr} {cap dap : Nat} (xs ys : List Int) (h : IntsAt w B ao xs) (hu : IntsAt w B bo ys) (hB : B ≤ w.heap.size) :
    Calls Try.prog 19 #[.slice ao xs.length cap, .slice bo ys.length dap] w fun r w' => r = .returned (.bool (decide (xs = ys))) ∧ Nu w w' := by
  obtain ⟨A, hA⟩ : ∃ A, decide (xs = ys) = A := ⟨_, rfl⟩
  rw [hA]
  have HA : Hid (decide (xs = ys) = A) := hA
  have hlim := h.lim
  have hlim2 := hu.lim
  have HS : Hid (IntsAt w B ao xs) := h
  have HU : Hid (IntsAt w B bo ys) := hu
  clear h hu hA
  by_cases h2 : xs.length = ys.length
  case neg =>
    have HM : Hid (A = false) := HA.out.symm.trans (decide_eq_false (fun e => h2 (congrArg List.length e)))
    have h2' : ¬ (xs.length : Int) = (ys.length : Int) := by omega
    go_enter Try.func19, Try.ntmps19
    go_wp2
    go_ret
    exact ⟨by rw [HM.out]; rfl, Mv.refl _ _⟩
  have HL : Hid (xs.length = ys.length) := h2
  rw [← h2]
  clear h2
  go_enter Try.func19, Try.ntmps19
  go_wp2
  go_loopw [5] (fun iv wr => ∃ (i : Nat), i ≤ xs.length ∧ iv = .int .i64 (i : Int) ∧ Hid (sameTo xs ys i) ∧ Nu w wr)
    (fun iv _ => xs.length - (intOf iv).toNat)
  case atStart => exact ⟨0, Nat.zero_le _, rfl, sameTo_zero _ _, Mv.refl _ _⟩
  case round =>
    obtain ⟨i, hi, rfl, HI, hbr⟩ := hrel
    have HW : Hid (Nu w wr) := hbr
    have hbb := (hbr.nu_below).mono hB
    clear hbr
    rcases Nat.lt_or_ge i xs.length with hlt | hge
    · have hlt' : (i : Int) < (xs.length : Int) := by omega
      have hltu : i < ys.length := by have := HL.out; omega
      rcases (HS.out.below hbb (Nat.le_refl _)).row with h0 | ⟨b, off, rfl, hbB, hit⟩
      · omega
      rcases (HU.out.below hbb (Nat.le_refl _)).row with h0 | ⟨b', off', rfl, hbB', hit'⟩
      · have := HL.out; omega
      have hx := hit i hlt
      have hy := hit' i hltu
      have HT : Hid (i < xs.length ∧ i < ys.length) := ⟨hlt, hltu⟩
      obtain ⟨s, HE, c0⟩ : ∃ s, Hid (xs[i]'hlt = s) ∧ wr.cell? ⟨b, off + i, none⟩ = some (.int .i64 s) := ⟨_, rfl, hx⟩
      obtain ⟨u, HF, e0⟩ : ∃ s, Hid (ys[i]'hltu = s) ∧ wr.cell? ⟨b', off' + i, none⟩ = some (.int .i64 s) := ⟨_, rfl, hy⟩
      clear hx hit hy hit' hbb
      by_cases hsu : s = u
      · have HO : Hid (sameTo xs ys (i + 1)) := sameTo_succ HT.out.1 HT.out.2 HI.out (by rw [HE.out, HF.out]; exact hsu)
        rw [← hsu] at e0
        clear hsu
        go_wp2
        go_quiet (fail)
        go_wp2
        go_roundw
        case rel => exact ⟨i + 1, HT.out.1, by go_num, HO, mv0 HW.out (nu_drewN _ _)⟩
        case measure => have := HT.out.1; simp [intOf]; omega
      · have HN : Hid (A = false) := HA.out.symm.trans (decide_eq_false (fun e => hsu (by
          rw [← HE.out, ← HF.out]
          simp only [e])))
        go_wp2
        go_quiet (fail)
        go_wp2
        go_ret
        exact ⟨by rw [HN.out]; rfl, mv0 HW.out (nu_drewN _ _)⟩
    · obtain rfl : i = xs.length := by omega
      have HM : Hid (A = true) := HA.out.symm.trans (decide_eq_true (sameTo_all HL.out HI.out))
      go_wp2
      go_ret
      exact ⟨by rw [HM.out]; rfl, HW.out⟩

end Go.Proofs.Ytcpgpiokjghcnaa
/-
  The example's graph, as the statements make it.
-/
namespace Go.Proofs.Ytcpgpiokjghcnaa
open Go.RowKit

def twoNet : List Node := [⟨[⟨1, 1, 0, [], [], 0⟩, ⟨0, 0, 1, [], [], 0⟩], 5, false, false, false⟩, ⟨[], 0, true, false, false⟩]

theorem ints_nil (w : World) (B : Nat) : IntsV w B (.slice none 0 0) [] := ⟨none, 0, rfl, by decide, .inl rfl⟩

theorem two_at {w : World} {b g : Nat} (hb : w.heap[b]? = some (.cells #[.int .i64 1, .int .i64 1, .int .i64 0, .slice none 0 0, .slice none 0 0, .int .u64 0, .int .i64 0, .int .i64 0, .int .i64 1, .slice none 0 0, .slice none 0 0, .int .u64 0] 69 (0, 0)))
    (hg : w.heap[g]? = some (.cells #[.slice (some ⟨b, 0, none⟩) 2 2, .int .u64 5, .bool false, .bool false, .bool false, .slice none 0 0, .int .u64 0, .bool true, .bool false, .bool false] 65 (0, 0))) :
    NodesAt w w.heap.size (some ⟨g, 0, none⟩) twoNet := by
  have lb := lt_of_block hb
  have lg := lt_of_block hg
  refine ⟨by decide, .inr ⟨g, 0, rfl, lg, fun i hi => ?_⟩⟩
  have c := cell_blk hg
  have d := cell_blk hb
  match i, hi with
  | 0, _ =>
    refine ⟨⟨_, c 0, some ⟨b, 0, none⟩, 2, rfl, (show (2 : Int) ≤ 17592186044416 by decide), .inr ⟨b, 0, rfl, lb, fun k hk => ?_⟩⟩, c 1, c 2, c 3, c 4⟩
    match k, hk with
    | 0, _ => exact ⟨d 0, d 1, d 2, ⟨_, d 3, ints_nil _ _⟩, ⟨_, d 4, ints_nil _ _⟩, d 5⟩
    | 1, _ => exact ⟨d 6, d 7, d 8, ⟨_, d 9, ints_nil _ _⟩, ⟨_, d 10, ints_nil _ _⟩, d 11⟩
  | 1, _ => exact ⟨⟨_, c 5, none, 0, rfl, (show (0 : Int) ≤ 17592186044416 by decide), .inl rfl⟩, c 6, c 7, c 8, c 9⟩

end Go.Proofs.Ytcpgpiokjghcnaa
/-
  States of graphs, and what is reached in the example's graph: plain data.
-/
namespace Go.Proofs.Ytcpgpiokjghcnaa

theorem txt_inj {a b : List UInt8} (h : txt a = txt b) : a = b := by
  have h1 := congrArg (fun x : ByteArray => x.data.toList) h
  simpa [txt] using h1
theorem nst_inj {k m : Nat} (hk : k < 18446744073709551616) (hm : m < 18446744073709551616) (h : nst k = nst m) : k = m :=
  enc_apart k m hk hm (by rw [← txt_inj h, List.take_length])

theorem nodeNo_some {size : Nat} {st : ByteArray} {k : Nat} (h : nodeNo size st = some k) : k < size ∧ nst k = st :=
  ⟨by have := List.mem_of_find?_eq_some h; simpa using this, by have := List.find?_some h; simpa using this⟩
theorem nodeNo_nst {size k : Nat} (hk : k < size) (hs : size ≤ 18446744073709551616) : nodeNo size (nst k) = some k := by
  cases h : nodeNo size (nst k) with
  | none =>
    have := List.find?_eq_none.1 h k (by simpa using hk)
    simp at this
  | some j =>
    obtain ⟨h1, h2⟩ := nodeNo_some h
    rw [nst_inj (by omega) (by omega) h2]
theorem nodeNo_none {size : Nat} {st : ByteArray} (h : ∀ k, k < size → nst k ≠ st) : nodeNo size st = none := by
  cases h' : nodeNo size st with
  | none => rfl
  | some j =>
    obtain ⟨h1, h2⟩ := nodeNo_some h'
    exact absurd h2 (h j h1)

theorem graph_next {ns : List Node} {k : Nat} {x : Node} (hk : ns[k]? = some x) (hs : ns.length ≤ 18446744073709551616) : (graphSem ns).next (nst k) = movsOf x.arcs := by
  have hl : k < ns.length := (List.getElem?_eq_some_iff.1 hk).1
  simp only [graphSem, nodeNo_nst hl hs, Option.bind_some, hk]
theorem graph_look {ns : List Node} {k : Nat} {x : Node} (hk : ns[k]? = some x) (hs : ns.length ≤ 18446744073709551616) : (graphSem ns).look (nst k) = ⟨x.props, x.en, x.pr, x.ac⟩ := by
  have hl : k < ns.length := (List.getElem?_eq_some_iff.1 hk).1
  simp only [graphSem, nodeNo_nst hl hs, Option.bind_some, hk]

theorem nst_zero : nst 0 = ⟨#[0]⟩ := by unfold nst; rw [encU_small (by decide)]; rfl
theorem nst_one : nst 1 = ⟨#[1]⟩ := by unfold nst; rw [encU_small (by decide)]; rfl

theorem two_may : mayN twoNet = true := by decide

theorem two_explored2 : explored (graphSem twoNet) 2 = some (twoNet, [nst 0, nst 1]) := by
  have h01 : nst 0 ≠ nst 1 := fun h => by have := nst_inj (by decide) (by decide) h; omega
  have n0 : (graphSem twoNet).next (nst 0) = [⟨1, 0, -1, -1, nst 1, 0, [], [], 0⟩, ⟨0, 1, -1, -1, ⟨#[]⟩, 1, [], [], 0⟩] := graph_next (x := ⟨[⟨1, 1, 0, [], [], 0⟩, ⟨0, 0, 1, [], [], 0⟩], 5, false, false, false⟩) rfl (by decide)
  have n1 : (graphSem twoNet).next (nst 1) = [] := graph_next (x := ⟨[], 0, true, false, false⟩) rfl (by decide)
  have l0 := graph_look (ns := twoNet) (k := 0) rfl (by decide)
  have l1 := graph_look (ns := twoNet) (k := 1) rfl (by decide)
  have p0 : plc [nst 0] (nst 1) = none := by rw [plc_none]; simpa using fun h => h01 h.symm
  have s0 : oneState (graphSem twoNet) 2 ⟨[], [nst 0], 0⟩ (nst 0) = some ⟨[⟨[⟨1, 1, 0, [], [], 0⟩, ⟨0, 0, 1, [], [], 0⟩], 5, false, false, false⟩], [nst 0, nst 1], 2⟩ := by
    simp [oneState, n0, l0, allMoves, oneMove, p0, arcOf, nodeOf]
  have s1 : oneState (graphSem twoNet) 2 ⟨[⟨[⟨1, 1, 0, [], [], 0⟩, ⟨0, 0, 1, [], [], 0⟩], 5, false, false, false⟩], [nst 0, nst 1], 2⟩ (nst 1) = some ⟨twoNet, [nst 0, nst 1], 2⟩ := by
    unfold oneState
    rw [n1, l1]
    rfl
  have hb : (graphSem twoNet).begin = nst 0 := rfl
  unfold explored
  rw [hb, explore_step (st := nst 0) rfl, s0, Option.bind_some, explore_step (st := nst 1) rfl, s1]
  rfl

theorem two_explored1 : explored (graphSem twoNet) 1 = none := by
  have h01 : nst 0 ≠ nst 1 := fun h => by have := nst_inj (by decide) (by decide) h; omega
  have n0 : (graphSem twoNet).next (nst 0) = [⟨1, 0, -1, -1, nst 1, 0, [], [], 0⟩, ⟨0, 1, -1, -1, ⟨#[]⟩, 1, [], [], 0⟩] := graph_next (x := ⟨[⟨1, 1, 0, [], [], 0⟩, ⟨0, 0, 1, [], [], 0⟩], 5, false, false, false⟩) rfl (by decide)
  have p0 : plc [nst 0] (nst 1) = none := by rw [plc_none]; simpa using fun h => h01 h.symm
  have s0 : oneState (graphSem twoNet) 1 ⟨[], [nst 0], 0⟩ (nst 0) = none := by
    simp [oneState, n0, allMoves, oneMove, p0]
  have hb : (graphSem twoNet).begin = nst 0 := rfl
  unfold explored
  rw [hb, explore_step (st := nst 0) rfl, s0]
  rfl

theorem encU_short (n : Nat) (h : n < 18446744073709551616) : (nst n).size ≤ 10 := by
  have := encU_ten h
  show (encU n).toArray.size ≤ 10
  simpa using this

end Go.Proofs.Ytcpgpiokjghcnaa
