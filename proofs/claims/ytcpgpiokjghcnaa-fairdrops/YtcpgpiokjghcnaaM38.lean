/-
  FaLaw.
-/
import Derived.Carry
import Derived.ShutString
import Derived.Test.YtcpgpiokjghcnaaM14
import Derived.Test.YtcpgpiokjghcnaaM37
import Derived.Test.YtcpgpiokjghcnaaM7
/-
  PROVED HERE: whatever the graph and the numbers, the statement sextantlaw18.FairDrops (along the way that the numbers choose: without their copies the states and moves of what is made are those of the system) answers true and leaves its arguments as they were. No condition.
-/
namespace Go.Proofs.Ytcpgpiokjghcnaa

open Go.ChangeShapes Go.WideShapes Go.ChangeAt Go.RowKit Go.Deep in
/-- How an argument that is a row of numbers is read, with the numbers' bounds. -/
theorem open_intsI {H : Type} {enc : TypeId × Value → H} {w : World} {fuel : Nat} {c0 : Value} {x : DataW H × List MemPlace} (h : DataW.trod enc Try.prog w 0 (fun _ => true) true fuel 25 [c0] = some x) (hw : ∀ n ∈ x.1.weights Try.prog 25, n ≤ reachBytes) : ∃ ao cap, ∃ l : List Int, c0 = .slice ao l.length cap ∧ IntsAt w w.heap.size ao l ∧ ∀ x ∈ l, I64 x := by
  obtain ⟨ao, cap, l, rfl, hby, hl, hr⟩ := open_row (α := Int) (fun b o z => w.cell? ⟨b, o, none⟩ = some (.int .i64 z) ∧ I64 z) Try.underlying25 n_cellsInt h hw (fun n q cs y hc ht _ => by
    obtain ⟨_, hlen, hcell⟩ := World.cells?_some hc
    match cs, hlen with
    | [c], _ =>
      obtain ⟨k, e0, _, wk⟩ := DataW.trod_int Try.underlying3 ht
      have bk := bounds_i64 wk
      simp only [List.cons.injEq, and_true] at e0
      subst e0
      have h0 := hcell 0 (by decide)
      have hq0 : q.add 0 = q := by simp [Addr.add]
      rw [hq0] at h0
      have hsp : q.spot = none := World.cell?_spot h0
      obtain ⟨qb, qo, qs⟩ := q
      simp only at hsp
      subst hsp
      exact ⟨k, ⟨h0, bk⟩, rfl, World.block_lt_of_cell? w _ h0⟩)
  rw [n_byInt] at hby
  unfold reachBytes at hby
  refine ⟨ao, cap, l, rfl, ⟨by omega, hr.imp id fun ⟨b, off, h1, h2, h3⟩ => ⟨b, off, h1, h2, fun i hi => by have := (h3 i hi).1; rwa [Nat.mul_one] at this⟩⟩, fun x hx => ?_⟩
  obtain ⟨i, hi, rfl⟩ := List.mem_iff_getElem.1 hx
  rcases hr with h0 | ⟨b, off, _, _, h3⟩
  · omega
  · exact (h3 i hi).2

end Go.Proofs.Ytcpgpiokjghcnaa
namespace Go.Proofs.Ytcpgpiokjghcnaa.fairDrops
open Go.ChangeShapes Go.WideShapes Go.ChangeAt Go.RowKit
set_option linter.unusedVariables false

theorem own : ownKnob Try.prog.godebug = none := by kernel_rfl

set_option maxRecDepth 100000 in
theorem lifted (os : Os) (started : os.Started) (H : Type) (enc : TypeId × Value → H) :
    ReturnsInHanded {} Try.checked os 3 .any (Rows.fairDropsSpec.pre6 enc Try.prog Try.f3 Rows.fairDropsRow.domain false) (Rows.fairDropsSpec.post enc Try.prog Try.f3 false true false false) := by
  refine returnsInHanded_of_change_sized (C := Try.checked) own started (by kernel_rfl) Try.func3
    (ChangeSpec.witness6 (enc := enc) (C := Try.checked) false ⟨#[], #[.agg #[.slice none 0 0], .int .i64 0, .slice none 0 0], []⟩ 8 (by kernel_rfl) (by kernel_rfl) (by kernel_rfl) (by kernel_rfl)) ?_
  intro W base args ds gs before hval0 hW hcnd hsz0 _
  have hval : ∀ (j : Nat) t v, Try.f3.params[j]? = some t → args[j]? = some v → Value.okWide Try.prog W .any base t v := hval0
  have hW' := hW
  obtain ⟨p, q, hA0, hV, rfl, hfz, hnd⟩ := hW
  have hA : DataW.TrodAll enc Try.prog W 0 (fun _ => true) true Try.f3.params.toList args.toList ds p := hA0
  rw [Try.params3] at hA hval
  obtain ⟨v0, vs0, d0, ds0, p0, q0, hargs, rfl, rfl, h0, r0⟩ := trodAll_cons hA
  obtain ⟨v1, vs1, d1, ds1, p1, q1, rfl, rfl, rfl, h1, r1⟩ := trodAll_cons r0
  obtain ⟨v2, vs2, d2, ds2, p2, q2, rfl, rfl, rfl, h2, r2⟩ := trodAll_cons r1
  obtain ⟨rfl, rfl, rfl⟩ := trodAll_nil r2
  obtain rfl : args = #[v0, v1, v2] := by cases args; simp_all
  obtain ⟨rfl, rfl⟩ := trodVars_none hV
  obtain ⟨cs0, rfl, hcs0⟩ := okWide_struct Try.underlying24 (hval 0 24 v0 rfl rfl)
  obtain ⟨x0, rfl⟩ := n_arr1 (hcs0.trans n_cellsNet)
  obtain ⟨so, sl, sc, rfl⟩ := okWide_slice Try.underlying25 (hval 2 25 v2 rfl rfl)
  have g0 := h0
  have g2 := h2
  obtain ⟨fuel0, hf0⟩ := h0
  obtain ⟨fuel2, hf2⟩ := h2
  have hz0 : ∀ n ∈ d0.weights Try.prog 24, n ≤ reachBytes := fun n hn => by
    have := List.all_eq_true.1 hsz0 n (DataW.weights_mem_each (j := 0) (t := 24) (d := d0) (by rw [Try.params3]; rfl) rfl n hn)
    simpa using this
  have hz2 : ∀ n ∈ d2.weights Try.prog 25, n ≤ reachBytes := fun n hn => by
    have := List.all_eq_true.1 hsz0 n (DataW.weights_mem_each (j := 2) (t := 25) (d := d2) (by rw [Try.params3]; rfl) rfl n hn)
    simpa using this
  obtain ⟨ao0, cap0, ns0, rfl, hs0⟩ := open_net (x := (d0, p0)) (by simpa [Value.cells] using hf0) hz0
  obtain ⟨a1, rfl, rfl, rfl, w1⟩ := open_int Try.underlying3 (hval 1 3 v1 rfl rfl) h1
  obtain ⟨ao2, cap2, ws, e2, hs2, hI2⟩ := open_intsI (x := (d2, p2)) (by simpa [Value.cells] using hf2) hz2
  simp only [Value.slice.injEq] at e2
  obtain ⟨rfl, rfl, rfl⟩ := e2
  clear hA0 hval0 hsz0 hz0 hz2
  simp only [List.append_nil] at hW'
  refine (fairDrops_any W ns0 ao0 cap0 hs0 a1 (bounds_i64 w1) so sc ws hs2 hI2).mono fun e W' ⟨he, hg0⟩ => ?_
  subst he
  have hg : Below W.heap.size W W' := hg0.nu_below
  have hlt0 : ∀ x ∈ p0, x.block < W.heap.size := fun x hx => hW'.lt x (by simp [hx])
  have hlt2 : ∀ x ∈ p2, x.block < W.heap.size := fun x hx => hW'.lt x (by simp [hx])
  exact ⟨_, rfl, post_of_kept (pa := p0 ++ ([] ++ (p2 ++ []))) (pv := []) hW' (fun _ _ _ => (trodAll_cons_mk (shut_bool Try.underlying4 _) trodAll_mk0))
    (trodAll_cons_mk (Below.trod n_laidOut (by kernel_rfl) (of_decide_eq_true (by kernel_rfl)) g0 hg hlt0) (trodAll_cons_mk (shut_int Try.underlying3 w1) (trodAll_cons_mk (Below.trod n_laidOut (by kernel_rfl) (of_decide_eq_true (by kernel_rfl)) g2 hg hlt2) trodAll_mk0))) rfl hg⟩

theorem over : Rows.fairDropsRow.holds Try.pinned (OpenSpec.ofChange Rows.fairDropsSpec) :=
  OpenClaim.holds_of_wide 3 Try.f3 rfl rfl rfl rfl rfl rfl rfl ⟨rfl, rfl, rfl, rfl, rfl⟩ rfl rfl rfl rfl rfl (by kernel_rfl) Try.func3 (by kernel_rfl)
    (of_decide_eq_true (by kernel_rfl)) (by unfold Func.isWrapper; first | (rw [if_pos (by decide +kernel)]; kernel_rfl) | (rw [if_neg (by decide +kernel)]; exact ⟨rfl, rfl⟩))
    (fun os started H enc _ => lifted os started H enc)

end Go.Proofs.Ytcpgpiokjghcnaa.fairDrops
namespace Go.Proofs.Ytcpgpiokjghcnaa

/-- THE STATEMENT. -/
theorem fairDrops_holds : Rows.FairDropsSaid := fairDrops.over

end Go.Proofs.Ytcpgpiokjghcnaa
