/-
  JLawEver.
-/
import Derived.Carry
import Derived.Deep.DeepLaidRun
import Derived.Test.YtiinmaedmkgfoaaDoorCards
import Derived.Test.YtiinmaedmkgfoaaDoorTie
import Derived.Test.YtiinmaedmkgfoaaDoorM20
import Derived.Test.YtiinmaedmkgfoaaDoorM46
import Derived.Test.YtiinmaedmkgfoaaDoorM52
/-
  PROVED HERE: whatever the processes and the numbers, the statement sextantlaw15.NetEver (of every move along the way that the numbers choose: what Begin, Next, Here, Ever and node answer fits together) answers true and leaves its arguments as they were; the table of package math/bits that the program lays by its own text is tied to it. No other condition.
-/
namespace Go.Proofs.YtiinmaedmkgfoaaDoor

open Go.ChangeShapes Go.WideShapes Go.ChangeAt Go.RowKit Go.Deep in
/-- How an argument that is a row of numbers is read, with the numbers' bounds. -/
theorem open_intsI {H : Type} {enc : TypeId × Value → H} {w : World} {fuel : Nat} {c0 : Value} {x : DataW H × List MemPlace} (h : DataW.trod enc Tryd.prog w 0 (fun _ => true) true fuel 22 [c0] = some x) (hw : ∀ n ∈ x.1.weights Tryd.prog 22, n ≤ reachBytes) : ∃ ao cap, ∃ l : List Int, c0 = .slice ao l.length cap ∧ IntsAt w w.heap.size ao l ∧ ∀ x ∈ l, I64 x := by
  obtain ⟨ao, cap, l, rfl, hby, hl, hr⟩ := open_row (α := Int) (fun b o z => w.cell? ⟨b, o, none⟩ = some (.int .i64 z) ∧ I64 z) Tryd.underlying22 n_cellsInt h hw (fun n q cs y hc ht _ => by
    obtain ⟨_, hlen, hcell⟩ := World.cells?_some hc
    match cs, hlen with
    | [c], _ =>
      obtain ⟨k, e0, _, wk⟩ := DataW.trod_int Tryd.underlying3 ht
      have bk := bounds_i64 wk
      simp only [List.cons.injEq, and_true] at e0
      subst e0
      have h0 := hcell 0 (by decide)
      have hq0 : q.add 0 = q := by simp [Addr.add]
      rw [hq0] at h0
      have hsp : q.spot = none := World.cell?_spot h0
      obtain ⟨qb, qo, qs⟩ := q
      simp only at hsp
      subst hsp
      exact ⟨k, ⟨h0, bk⟩, rfl, World.block_lt_of_cell? w _ h0⟩)
  rw [n_byInt] at hby
  unfold reachBytes at hby
  refine ⟨ao, cap, l, rfl, ⟨by omega, hr.imp id fun ⟨b, off, h1, h2, h3⟩ => ⟨b, off, h1, h2, fun i hi => by have := (h3 i hi).1; rwa [Nat.mul_one] at this⟩⟩, fun x hx => ?_⟩
  obtain ⟨i, hi, rfl⟩ := List.mem_iff_getElem.1 hx
  rcases hr with h0 | ⟨b, off, _, _, h3⟩
  · omega
  · exact (h3 i hi).2

end Go.Proofs.YtiinmaedmkgfoaaDoor
namespace Go.Proofs.YtiinmaedmkgfoaaDoor.netEver
open Go.ChangeShapes Go.WideShapes Go.ChangeAt Go.RowKit
set_option linter.unusedVariables false

theorem own : ownKnob Tryd.prog.godebug = none := by kernel_rfl

theorem witness (os : Os) {H : Type} (enc : TypeId × Value → H) : ∃ (w : World) (tape : Tape) (i : Input), w.os = os ∧ (w.forCall tape i).Shaped Tryd.checked.prog ∧ i.vars = [] ∧ Input.okWide Tryd.checked.prog (w.forCall tape i) .any w.heap.size 5 i ∧
      ((Rows.netEverSpec.pre enc Tryd.checked.prog Tryd.f5 [] false (w.forCall tape i).memory i.args ∧ laidMetH Tryd.prog Rows.netEverRow.laid (w.forCall tape i).memory) ∧ sizedMet enc Tryd.checked.prog Tryd.f5 (OpenSpec.ofChange Rows.netEverSpec) false (w.forCall tape i).memory i.args) ∧ ({} : Assume).holds Tryd.checked.prog (lone (Frame.enter Tryd.checked.prog 5 i.args .normal) [] (w.forCall tape i)) :=
  ChangeSpec.witness_at (enc := enc) (C := Tryd.checked) (os := os) (X := fun w _ => laidMetH Tryd.prog Rows.netEverRow.laid w) false
    { World.holding Tryd.prog os ⟨#[], #[], []⟩ with heap := tabHeap (World.holding Tryd.prog os ⟨#[], #[], []⟩).heap } #[.agg #[.slice none 0 0, .slice none 0 0, .slice none 0 0], .slice none 0 0] 8 rfl (by kernel_rfl) (by kernel_rfl) (by kernel_rfl) (by kernel_rfl) (by kernel_rfl)
    (laidMet_of_run3 8 (by kernel_rfl) (by kernel_rfl) (by kernel_rfl))

set_option maxRecDepth 100000 in
theorem lifted (os : Os) (started : os.Started) (H : Type) (enc : TypeId × Value → H) :
    ReturnsInHanded {} Tryd.checked os 5 .any (fun w args => (Rows.netEverSpec.pre enc Tryd.prog Tryd.f5 [] false w args ∧ laidMetH Tryd.prog Rows.netEverRow.laid w) ∧ sizedMet enc Tryd.prog Tryd.f5 (OpenSpec.ofChange Rows.netEverSpec) false w args)
      (Rows.netEverSpec.post enc Tryd.prog Tryd.f5 false true false false) := by
  refine handed_laid (C := Tryd.checked) (X := fun w _ => laidMetH Tryd.prog Rows.netEverRow.laid w) (fun _ _ _ hh h => h.of_heap hh) own started (by kernel_rfl) Tryd.func5 (witness os enc) ?_
  intro W base args ds gs before hval0 hW hL hsh hsz0
  have hval : ∀ (j : Nat) t v, Tryd.f5.params[j]? = some t → args[j]? = some v → Value.okWide Tryd.prog W .any base t v := hval0
  have hW' := hW
  obtain ⟨p, q, hA0, hV, rfl, hfz, hnd⟩ := hW
  have hA : DataW.TrodAll enc Tryd.prog W 0 (fun _ => true) true Tryd.f5.params.toList args.toList ds p := hA0
  rw [Tryd.params5] at hA hval
  obtain ⟨v0, vs0, d0, ds0, p0, q0, hargs, rfl, rfl, h0, r0⟩ := trodAll_cons hA
  obtain ⟨v1, vs1, d1, ds1, p1, q1, rfl, rfl, rfl, h1, r1⟩ := trodAll_cons r0
  obtain ⟨rfl, rfl, rfl⟩ := trodAll_nil r1
  obtain rfl : args = #[v0, v1] := by cases args; simp_all
  obtain ⟨rfl, rfl⟩ := trodVars_none hV
  obtain ⟨cs0, rfl, hcs0⟩ := okWide_struct Tryd.underlying26 (hval 0 26 v0 rfl rfl)
  obtain ⟨t0, t1, t2, rfl⟩ := n_arr3 (hcs0.trans n_cellsThr)
  obtain ⟨so, sl, sc, rfl⟩ := okWide_slice Tryd.underlying22 (hval 1 22 v1 rfl rfl)
  have g0 := h0
  have g1 := h1
  obtain ⟨fuel0, hf0⟩ := h0
  obtain ⟨fuel1, hf1⟩ := h1
  have hz0 : ∀ n ∈ d0.weights Tryd.prog 26, n ≤ reachBytes := fun n hn => by
    have := List.all_eq_true.1 hsz0 n (DataW.weights_mem_each (j := 0) (t := 26) (d := d0) (by rw [Tryd.params5]; rfl) rfl n hn)
    simpa using this
  have hz1 : ∀ n ∈ d1.weights Tryd.prog 22, n ≤ reachBytes := fun n hn => by
    have := List.all_eq_true.1 hsz0 n (DataW.weights_mem_each (j := 1) (t := 22) (d := d1) (by rw [Tryd.params5]; rfl) rfl n hn)
    simpa using this
  obtain ⟨t, ht⟩ := open_thr (x := (d0, p0)) (by simpa [Value.cells] using hf0) hz0
  obtain ⟨ao1, cap1, ws, e1, hs1, hI1⟩ := open_intsI (x := (d1, p1)) (by simpa [Value.cells] using hf1) hz1
  simp only [Value.slice.injEq] at e1
  obtain ⟨rfl, rfl, rfl⟩ := e1
  clear hA0 hval0 hsz0 hz0 hz1
  simp only [List.append_nil] at hW'
  refine (NetEver_walk W t0 t1 t2 t ht ws hs1 hI1 (tab_of_laid hL)).mono fun e W' ⟨he, hg0⟩ => ?_
  subst he
  have hg : Below W.heap.size W W' := hg0.nu_below
  have hlt0 : ∀ x ∈ p0, x.block < W.heap.size := fun x hx => hW'.lt x (by simp [hx])
  have hlt1 : ∀ x ∈ p1, x.block < W.heap.size := fun x hx => hW'.lt x (by simp [hx])
  exact ⟨_, rfl, post_of_kept (pa := p0 ++ (p1 ++ [])) (pv := []) hW' (fun _ _ _ => (trodAll_cons_mk (shut_bool Tryd.underlying4 _) trodAll_mk0))
    (trodAll_cons_mk (Below.trod n_laidOut (by kernel_rfl) (of_decide_eq_true (by kernel_rfl)) g0 hg hlt0) (trodAll_cons_mk (Below.trod n_laidOut (by kernel_rfl) (of_decide_eq_true (by kernel_rfl)) g1 hg hlt1) trodAll_mk0)) rfl hg⟩

theorem over : Rows.netEverRow.holds Tryd.pinned (OpenSpec.ofChange Rows.netEverSpec) :=
  OpenClaim.holds_of_wide 5 Tryd.f5 rfl rfl rfl rfl rfl rfl rfl ⟨rfl, rfl, rfl, rfl, rfl⟩ rfl rfl rfl rfl rfl (by kernel_rfl) Tryd.func5 (by kernel_rfl)
    (of_decide_eq_true (by kernel_rfl)) (by unfold Func.isWrapper; first | (rw [if_pos (by decide +kernel)]; kernel_rfl) | (rw [if_neg (by decide +kernel)]; exact ⟨rfl, rfl⟩))
    (fun os started H enc _ => lifted os started H enc)

end Go.Proofs.YtiinmaedmkgfoaaDoor.netEver
namespace Go.Proofs.YtiinmaedmkgfoaaDoor

/-- THE STATEMENT: the tied card. -/
theorem netEver_card : Rows.NetEverCardSaid :=
  Claim7.holds_tied_plain_at .later [] [.data] true (true, "f55a264c44bf426132aa9c385a3d077f9c96a6f26cf1b0f62f367294625d3e75") false
    netEver.over (fun _ h => by cases h) (by kernel_rfl) (fun _ h => by cases h) netEver_row_tie rfl ⟨rfl, rfl⟩ (by kernel_rfl) rfl
    (fun f fn hf hfn => by
      obtain rfl : f = 5 := Option.some.inj ((show Tryd.prog.funcNamed "sextant/sextantlaw15.NetEver" = some 5 by kernel_rfl).symm.trans hf) |>.symm
      obtain rfl : fn = Tryd.f5 := (Option.some.inj (Tryd.func5.symm.trans hfn)).symm
      exact ⟨by kernel_rfl, fun j t ht => by
        rw [Tryd.params5] at ht
        have h3 : t = 26 ∨ t = 22 := by
          rcases j with _ | _ | j
          · exact .inl (by simpa using ht.symm)
          · exact .inr (by simpa using ht.symm)
          · simp at ht
        rcases h3 with rfl | rfl
        · exact (show Tryd.prog.wantsStandIn 26 = false by kernel_rfl)
        · exact (show Tryd.prog.wantsStandIn 22 = false by kernel_rfl)⟩)
    (by kernel_rfl)

end Go.Proofs.YtiinmaedmkgfoaaDoor
