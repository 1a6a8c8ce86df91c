/-
  GSpoil0, GSpoil, GCheck.
-/
import Derived.Test.YtkjalclplfdpmaaM13
import Derived.Test.YtkjalclplfdpmaaM22
import Derived.Test.YtkjalclplfdpmaaM33
import Derived.Test.YtkjalclplfdpmaaM36
import Derived.Test.YtkjalclplfdpmaaM37
/-
  A graph that may be written into: laws on worlds.
-/
set_option linter.unusedVariables false
set_option linter.unusedSimpArgs false
namespace Go.Proofs.Ytkjalclplfdpmaa
open Go.RowKit

/-- Arcs that may be written into, in a block from H on and ahead of B. -/
structure ArcW (W : World) (H B : Nat) (aa : Option Addr) (al : Nat) : Prop where
  lim : (al : Int) ≤ 17592186044416
  row : al = 0 ∨ ∃ g cs, aa = some ⟨g, 0, none⟩ ∧ H ≤ g ∧ g < B ∧ W.heap[g]? = some (.cells cs 51 (0, 0)) ∧ al * 6 ≤ cs.size ∧ ∀ k, k < al → (∃ ra rl rc, cs[k * 6 + 3]? = some (.slice ra rl rc) ∧ WrI W H B ra rl rc) ∧ (∃ ra rl rc, cs[k * 6 + 4]? = some (.slice ra rl rc) ∧ WrI W H B ra rl rc)

/-- Nodes that may be written into. -/
structure NodW (W : World) (H B g len : Nat) : Prop where
  lim : (len : Int) ≤ 17592186044416
  hb : H ≤ g ∧ g < B
  blk : ∃ cs, W.heap[g]? = some (.cells cs 48 (0, 0)) ∧ len * 5 ≤ cs.size ∧ ∀ i, i < len → ∃ aa al ac, cs[i * 5]? = some (.slice aa al ac) ∧ ArcW W H B aa al

theorem wrI_none (W : World) (H B : Nat) : WrI W H B none 0 0 := ⟨Nat.le_refl _, by decide, .inl rfl⟩
theorem arcW_none (W : World) (H B : Nat) (aa : Option Addr) : ArcW W H B aa 0 := ⟨by decide, .inl rfl⟩

theorem WrI.mvT {S : Nat → Prop} {W W' : World} {H B : Nat} {ao : Option Addr} {len cap : Nat} (h : WrI W H B ao len cap) (hm : Mv S W W') (hS : ∀ (g : Nat) (cs : Array Value), W.heap[g]? = some (.cells cs 3 (0, 0)) → ¬ S g) : WrI W' H B ao len cap :=
  ⟨h.len, h.lim, h.row.imp id fun ⟨g, cs, h1, h2, h3, h4, h5⟩ => ⟨g, cs, h1, h2, h3, hm.heap h4 (hS g cs h4), h5⟩⟩
theorem ArcW.sh {W W' : World} {H B : Nat} {aa : Option Addr} {al : Nat} (h : ArcW W H B aa al) (k : ShI H B W W') : ArcW W' H B aa al :=
  ⟨h.lim, h.row.imp id fun ⟨g, cs, h1, h2, h3, h4, h5, h6⟩ => ⟨g, cs, h1, h2, h3, k.mv.heap h4 (fun hs => by
    obtain ⟨_, _, cs', hc⟩ := hs
    rw [h4] at hc; simp at hc), h5, fun i hi => by
      obtain ⟨⟨a1, a2, a3, a4, a5⟩, ⟨b1, b2, b3, b4, b5⟩⟩ := h6 i hi
      exact ⟨⟨a1, a2, a3, a4, a5.sh k⟩, ⟨b1, b2, b3, b4, b5.sh k⟩⟩⟩⟩
theorem NodW.sh {W W' : World} {H B g len : Nat} (h : NodW W H B g len) (k : ShI H B W W') : NodW W' H B g len := by
  obtain ⟨cs, h1, h2, h3⟩ := h.blk
  refine ⟨h.lim, h.hb, cs, k.mv.heap h1 (fun hs => by
    obtain ⟨_, _, cs', hc⟩ := hs
    rw [h1] at hc; simp at hc), h2, fun i hi => ?_⟩
  obtain ⟨aa, al, ac, h4, h5⟩ := h3 i hi
  exact ⟨aa, al, ac, h4, h5.sh k⟩

/-- Some cells of a block have been written. -/
structure Wr (w w' : World) (g o n : Nat) (t : TypeId) (vs : List Value) : Prop where
  mv : Mv (· = g) w w'
  blk : ∀ cs : Array Value, w.heap[g]? = some (.cells cs t (0, 0)) → o + n ≤ cs.size → ∃ cs' : Array Value, w'.heap[g]? = some (.cells cs' t (0, 0)) ∧ cs'.size = cs.size ∧ (∀ j, j < o ∨ o + n ≤ j → cs'[j]? = cs[j]?) ∧ ∀ j, j < n → cs'[o + j]? = vs[j]?

theorem wr_nil (w : World) (g o : Nat) (t : TypeId) : Wr w w g o 0 t [] := ⟨Mv.refl _ _, fun cs h _ => ⟨cs, h, rfl, fun _ _ => rfl, fun j hj => absurd hj (by omega)⟩⟩
theorem Wr.snoc {w w' : World} {g o n : Nat} {t : TypeId} {vs : List Value} (h : Wr w w' g o n t vs) (hn : vs.length = n) (v : Value) : Wr w (w'.setCell ⟨g, o + n, none⟩ v) g o (n + 1) t (vs ++ [v]) := by
  refine ⟨h.mv.trans (Mv.setCell w' ⟨g, o + n, none⟩ v) (fun x hx => .inl hx), fun cs hc hl => ?_⟩
  obtain ⟨cs', h1, h2, h3, h4⟩ := h.blk cs hc (by omega)
  refine ⟨_, setCell_blk h1, by rw [Array.size_setIfInBounds, h2], fun j hj => ?_, fun j hj => ?_⟩
  · rw [Array.getElem?_setIfInBounds_ne (by omega)]
    exact h3 j (by omega)
  · by_cases hjn : j = n
    · subst hjn
      rw [Array.getElem?_setIfInBounds_self_of_lt (by omega), List.getElem?_append_right (by omega), hn]
      simp
    · rw [Array.getElem?_setIfInBounds_ne (by omega), List.getElem?_append_left (by omega)]
      exact h4 j (by omega)

theorem ArcW.setArc {W W' : World} {H B g i : Nat} {vs : List Value} (hw : Wr W W' g (i * 6) 6 51 vs) (h3 : vs[3]? = some (.slice none 0 0)) (h4 : vs[4]? = some (.slice none 0 0)) {c0 : Array Value} (hg : W.heap[g]? = some (.cells c0 51 (0, 0))) (hi : i * 6 + 6 ≤ c0.size) {aa : Option Addr} {al : Nat} (h : ArcW W H B aa al) : ArcW W' H B aa al := by
  have hno : ∀ (b : Nat) (cs : Array Value), W.heap[b]? = some (.cells cs 3 (0, 0)) → ¬ b = g := fun b cs hb e => by
    rw [e, hg] at hb; simp at hb
  refine ⟨h.lim, h.row.imp id fun ⟨g', cs, h1, h2, h5, h6, h7, h8⟩ => ?_⟩
  by_cases he : g' = g
  · subst he
    obtain ⟨cs', a1, a2, a3, a4⟩ := hw.blk c0 hg hi
    rw [hg] at h6
    simp only [Option.some.injEq, Obj.cells.injEq] at h6
    obtain rfl := h6.1
    refine ⟨g', cs', h1, h2, h5, a1, by omega, fun k hk => ?_⟩
    by_cases hki : k = i
    · subst hki
      exact ⟨⟨none, 0, 0, (a4 3 (by omega)).trans h3, wrI_none _ _ _⟩, ⟨none, 0, 0, (a4 4 (by omega)).trans h4, wrI_none _ _ _⟩⟩
    · obtain ⟨⟨r1, r2, r3, r4, r5⟩, ⟨s1, s2, s3, s4, s5⟩⟩ := h8 k hk
      exact ⟨⟨r1, r2, r3, (a3 _ (by omega)).trans r4, r5.mvT hw.mv hno⟩, ⟨s1, s2, s3, (a3 _ (by omega)).trans s4, s5.mvT hw.mv hno⟩⟩
  · refine ⟨g', cs, h1, h2, h5, hw.mv.heap h6 he, h7, fun k hk => ?_⟩
    obtain ⟨⟨r1, r2, r3, r4, r5⟩, ⟨s1, s2, s3, s4, s5⟩⟩ := h8 k hk
    exact ⟨⟨r1, r2, r3, r4, r5.mvT hw.mv hno⟩, ⟨s1, s2, s3, s4, s5.mvT hw.mv hno⟩⟩

theorem NodW.setArc {W W' : World} {H B g i gn len : Nat} {vs : List Value} (hw : Wr W W' g (i * 6) 6 51 vs) (h3 : vs[3]? = some (.slice none 0 0)) (h4 : vs[4]? = some (.slice none 0 0)) {c0 : Array Value} (hg : W.heap[g]? = some (.cells c0 51 (0, 0))) (hi : i * 6 + 6 ≤ c0.size) (h : NodW W H B gn len) : NodW W' H B gn len := by
  obtain ⟨cs, a1, a2, a3⟩ := h.blk
  refine ⟨h.lim, h.hb, cs, hw.mv.heap a1 (fun e => by
    have e' : gn = g := e
    rw [e', hg] at a1; simp at a1), a2, fun k hk => ?_⟩
  obtain ⟨aa, al, ac, b1, b2⟩ := a3 k hk
  exact ⟨aa, al, ac, b1, b2.setArc hw h3 h4 hg hi⟩

theorem NodW.setNode {W W' : World} {H B g i len : Nat} {vs : List Value} (hw : Wr W W' g (i * 5) 5 48 vs) (h0 : vs[0]? = some (.slice none 0 0)) (hi : i < len) (h : NodW W H B g len) : NodW W' H B g len := by
  obtain ⟨cs, a1, a2, a3⟩ := h.blk
  obtain ⟨cs', b1, b2, b3, b4⟩ := hw.blk cs a1 (by omega)
  have hno : ∀ (b : Nat) (cs : Array Value) (t : TypeId), W.heap[b]? = some (.cells cs t (0, 0)) → t ≠ 48 → ¬ b = g := fun b cs t hb ht e => by
    rw [e, a1] at hb; simp only [Option.some.injEq, Obj.cells.injEq] at hb
    exact ht hb.2.1.symm
  refine ⟨h.lim, h.hb, cs', b1, by omega, fun k hk => ?_⟩
  by_cases hki : k = i
  · subst hki
    exact ⟨none, 0, 0, (b4 0 (by omega)).trans h0, arcW_none _ _ _ _⟩
  · obtain ⟨aa, al, ac, c1, c2⟩ := a3 k hk
    refine ⟨aa, al, ac, (b3 _ (by omega)).trans c1, c2.lim, c2.row.imp id fun ⟨g', cs, d1, d2, d3, d4, d5, d6⟩ => ⟨g', cs, d1, d2, d3, hw.mv.heap d4 (hno _ _ _ d4 (by decide)), d5, fun k hk => ?_⟩⟩
    obtain ⟨⟨r1, r2, r3, r4, r5⟩, ⟨s1, s2, s3, s4, s5⟩⟩ := d6 k hk
    exact ⟨⟨r1, r2, r3, r4, r5.mvT hw.mv (fun b cs hb => hno b cs _ hb (by decide))⟩, ⟨s1, s2, s3, s4, s5.mvT hw.mv (fun b cs hb => hno b cs _ hb (by decide))⟩⟩

/-- What is known between two nodes, between two arcs. -/
structure SpI (H B g len : Nat) (w W : World) : Prop where
  nd : NodW W H B g len
  mv : Mv (fun b => H ≤ b ∧ b < B) w W
structure SpJ (H B g len i : Nat) (aa : Option Addr) (al ac : Nat) (w W : World) : Prop where
  sp : SpI H B g len w W
  cell : ∃ cs : Array Value, W.heap[g]? = some (.cells cs 48 (0, 0)) ∧ cs[i * 5]? = some (.slice aa al ac)
  ar : ArcW W H B aa al
theorem SpJ.sh {H B g len i : Nat} {aa : Option Addr} {al ac : Nat} {w W W' : World} (h : SpJ H B g len i aa al ac w W) (k : ShI H B W W') : SpJ H B g len i aa al ac w W' := by
  obtain ⟨cs, h1, h2⟩ := h.cell
  exact ⟨⟨h.sp.nd.sh k, h.sp.mv.trans k.mv (fun x hx => .inl ⟨hx.1, hx.2.1⟩)⟩, ⟨cs, k.mv.heap h1 (fun hs => by
    obtain ⟨_, _, cs', hc⟩ := hs
    rw [h1] at hc; simp at hc), h2⟩, h.ar.sh k⟩
theorem SpJ.first {H B g len i : Nat} {w W : World} (h : SpI H B g len w W) (hi : i < len) : ∃ aa al ac, SpJ H B g len i aa al ac w W := by
  obtain ⟨cs, h1, h2, h3⟩ := h.nd.blk
  obtain ⟨aa, al, ac, h4, h5⟩ := h3 i hi
  exact ⟨aa, al, ac, h, ⟨cs, h1, h4⟩, h5⟩
theorem SpJ.arc {H B g len i k : Nat} {aa : Option Addr} {al ac : Nat} {w W W' : World} {vs : List Value} {ga : Nat} (h : SpJ H B g len i aa al ac w W) (hk : k < al) (ha : aa = some ⟨ga, 0, none⟩) (hw : Wr W W' ga (k * 6) 6 51 vs) (h3 : vs[3]? = some (.slice none 0 0)) (h4 : vs[4]? = some (.slice none 0 0)) : SpJ H B g len i aa al ac w W' := by
  obtain ⟨cs, a1, a2⟩ := h.cell
  rcases h.ar.row with h0 | ⟨g', c0, b1, b2, b3, b4, b5, b6⟩
  · omega
  obtain rfl : ga = g' := by rw [ha] at b1; simpa using b1
  have hl : k * 6 + 6 ≤ c0.size := by omega
  exact ⟨⟨h.sp.nd.setArc hw h3 h4 b4 hl, h.sp.mv.trans hw.mv (fun x hx => .inl (by have : x = ga := hx; omega))⟩, ⟨cs, hw.mv.heap a1 (fun e => by
    have e' : g = ga := e
    rw [e', b4] at a1; simp at a1), a2⟩, h.ar.setArc hw h3 h4 b4 hl⟩
theorem SpI.node {H B g len i : Nat} {w W W' : World} {vs : List Value} (h : SpI H B g len w W) (hi : i < len) (hw : Wr W W' g (i * 5) 5 48 vs) (h0 : vs[0]? = some (.slice none 0 0)) : SpI H B g len w W' :=
  ⟨h.nd.setNode hw h0 hi, h.mv.trans hw.mv (fun x hx => .inl (by have : x = g := hx; have := h.nd.hb; omega))⟩

/-- What is one's own may be written into. -/
theorem OwnN.wr {A : World} {H : Nat} {no : Option Addr} {nc : Nat} {ns : List Node} {nxs : List NX} (h : OwnN A H no nc ns nxs) (hl : (ns.length : Int) ≤ 17592186044416) : ns.length = 0 ∨ ∃ g, no = some ⟨g, 0, none⟩ ∧ NodW A H A.heap.size g ns.length := by
  have hlx : nxs.length = ns.length := by rw [← h.eq, List.length_map]
  rcases h.row.2 with ⟨_, hn⟩ | ⟨g, cap, cur, hv, hB, hh, hle, hmax, hsz, hcur⟩
  · exact .inl hn
  · simp only [Value.slice.injEq] at hv
    obtain ⟨rfl, _, rfl⟩ := hv
    refine .inr ⟨g, rfl, hl, ⟨hB, lt_of_block hh⟩, cur, hh, ?_, fun i hi => ?_⟩
    · have := congrArg List.length hcur
      rw [nxflat_length, hlx] at this
      simp only [List.length_take, Array.length_toList] at this
      omega
    · have hi' : i < nxs.length := by omega
      have hc := (nxrow_at (l := nxs) (by have := h.row; rwa [← hlx] at this) rfl i hi').c0
      rw [cell_blk hh] at hc
      refine ⟨_, _, _, hc, ?_⟩
      have hx := h.nz _ (List.getElem_mem hi')
      obtain ⟨ga, cs, e1, e2, e3, e4, e5⟩ := hx.blk
      refine ⟨hx.lim, .inr ⟨ga, cs, e1, e2, lt_of_block e3, e3, e4, fun k hk => ?_⟩⟩
      have hk5 := e5 k hk
      have hoo := hx.ow _ (List.getElem_mem hk)
      have q3 := hk5.c3
      have q4 := hk5.c4
      rw [cell_blk e3] at q3 q4
      exact ⟨⟨_, _, _, q3, hoo.1.wr (Nat.le_refl _)⟩, ⟨_, _, _, q4, hoo.2.wr (Nat.le_refl _)⟩⟩

end Go.Proofs.Ytkjalclplfdpmaa
/-
  The statement's spoil: an owner's writing into a graph.
-/
set_option linter.unusedVariables false
set_option linter.unusedSimpArgs false
namespace Go.Proofs.Ytkjalclplfdpmaa
open Go.RowKit

theorem cells_at {W : World} {g o : Nat} {t : TypeId} {cs : Array Value} (h : W.heap[g]? = some (.cells cs t (0, 0))) {j : Nat} (hj : j < cs.size) : ∃ u, W.cell? ⟨g, j, none⟩ = some u := ⟨cs[j], by rw [cell_blk h, Array.getElem?_eq_getElem hj]⟩

theorem SpJ.cells {H B g len i : Nat} {aa : Option Addr} {al ac : Nat} {w W : World} (h : SpJ H B g len i aa al ac w W) {k : Nat} (hk : k < al) : ∃ ga, aa = some ⟨ga, 0, none⟩ ∧ W.cell? ⟨g, i * 5, none⟩ = some (.slice aa al ac) ∧ (∃ ra rl rc, W.cell? ⟨ga, k * 6 + 3, none⟩ = some (.slice ra rl rc) ∧ WrI W H B ra rl rc) ∧ (∃ ra rl rc, W.cell? ⟨ga, k * 6 + 4, none⟩ = some (.slice ra rl rc) ∧ WrI W H B ra rl rc) ∧
    (∃ u, W.cell? ⟨ga, k * 6, none⟩ = some u) ∧ (∃ u, W.cell? ⟨ga, k * 6 + 1, none⟩ = some u) ∧ (∃ u, W.cell? ⟨ga, k * 6 + 2, none⟩ = some u) ∧ (∃ u, W.cell? ⟨ga, k * 6 + 5, none⟩ = some u) ∧ ∀ j, W.frozen? ⟨ga, j, none⟩ = false := by
  obtain ⟨cs, a1, a2⟩ := h.cell
  rcases h.ar.row with h0 | ⟨ga, c0, b1, b2, b3, b4, b5, b6⟩
  · omega
  obtain ⟨⟨r1, r2, r3, r4, r5⟩, ⟨s1, s2, s3, s4, s5⟩⟩ := b6 k hk
  refine ⟨ga, b1, by rw [cell_blk a1]; exact a2, ⟨r1, r2, r3, by rw [cell_blk b4]; exact r4, r5⟩, ⟨s1, s2, s3, by rw [cell_blk b4]; exact s4, s5⟩, ?_, ?_, ?_, ?_, fun j => free_blk b4 j⟩
  all_goals exact cells_at (o := 0) b4 (by omega)

theorem wr5 (w : World) (g o : Nat) (t : TypeId) (v0 v1 v2 v3 v4 : Value) : Wr w (((((w.setCell ⟨g, o, none⟩ v0).setCell ⟨g, o + 1, none⟩ v1).setCell ⟨g, o + 2, none⟩ v2).setCell ⟨g, o + 3, none⟩ v3).setCell ⟨g, o + 4, none⟩ v4) g o 5 t [v0, v1, v2, v3, v4] :=
  (((((wr_nil w g o t).snoc rfl v0).snoc rfl v1).snoc rfl v2).snoc rfl v3).snoc rfl v4
theorem wr6 (w : World) (g o : Nat) (t : TypeId) (v0 v1 v2 v3 v4 v5 : Value) : Wr w ((((((w.setCell ⟨g, o, none⟩ v0).setCell ⟨g, o + 1, none⟩ v1).setCell ⟨g, o + 2, none⟩ v2).setCell ⟨g, o + 3, none⟩ v3).setCell ⟨g, o + 4, none⟩ v4).setCell ⟨g, o + 5, none⟩ v5) g o 6 t [v0, v1, v2, v3, v4, v5] :=
  ((((((wr_nil w g o t).snoc rfl v0).snoc rfl v1).snoc rfl v2).snoc rfl v3).snoc rfl v4).snoc rfl v5

set_option maxHeartbeats 4000000 in
set_option maxRecDepth 100000 in
theorem spoil_any (w : World) (H B g len nc : Nat) (no : Option Addr) (hB : B ≤ w.heap.size) (hl : (len : Int) ≤ 17592186044416) (hno : 0 < len → no = some ⟨g, 0, none⟩ ∧ NodW w H B g len) :
    Calls Try.prog 9 #[.agg #[.slice no len nc]] w fun e w' => e = .returned (.tuple #[]) ∧ Mv (fun b => H ≤ b ∧ b < B) w w' := by
  have HBW := hid hB
  have HN1 : Hid (Nu w (w.alloc (.cells #[.slice no len nc] 24))) := Mv.alloc _ _ _
  have HB1 : Hid ((w.alloc (.cells #[.slice no len nc] 24)).cell? ⟨w.heap.size, 0, none⟩ = some (.slice no len nc)) := cell_blk (box_new w _ _) 0
  have HNO : Hid (0 < len → no = some ⟨g, 0, none⟩ ∧ NodW (w.alloc (.cells #[.slice no len nc] 24)) H B g len) := fun h => ⟨(hno h).1, (hno h).2.sh (ShI.nu HN1.out)⟩
  clear hB hno
  go_enter Try.func9, Try.ntmps9
  go_upto_region 1 with fail
  generalize w.alloc (.cells #[.slice no len nc] 24) = w1 at *
  go_wp2
  go_loopw [2] (fun iv wr => ∃ (i : Nat), i ≤ len ∧ iv = .int .i64 (i : Int) ∧ Hid (Mv (fun b => H ≤ b ∧ b < B) w1 wr) ∧ Hid (0 < len → no = some ⟨g, 0, none⟩ ∧ NodW wr H B g len)) (fun iv _ => len - (intOf iv).toNat)
  case atStart => exact ⟨0, Nat.zero_le _, rfl, Mv.refl _ _, HNO⟩
  case round =>
    obtain ⟨i, hi, rfl, HMV, HND⟩ := hrel
    clear HNO
    have d1 := cell_mv HMV.out HB1.out (by have := HBW.out; omega)
    rcases Nat.lt_or_ge i len with hlt | hge
    case inr =>
      obtain rfl : i = len := by omega
      have hge' : ¬ (i : Int) < (i : Int) := by omega
      clear hge hi
      go_wp2
      go_returns
      exact ⟨rfl, (HN1.out.mono (fun _ h => h.elim)).trans HMV.out (fun x hx => .inl hx)⟩
    have hlt' : (i : Int) < (len : Int) := by omega
    have HLT := hid hlt
    obtain ⟨rfl, hnd⟩ := HND.out (by omega)
    obtain ⟨aa, al, ac, hj⟩ := SpJ.first (w := w1) ⟨hnd, HMV.out⟩ hlt
    have HJ0 := hid hj
    have hal := hj.ar.lim
    clear hnd hj hlt hi HND HMV
    go_upto_region 4 with fail
    clear d1
    go_wp2
    go_loopw [3] (fun kv wk => ∃ (k : Nat), k ≤ al ∧ kv = .int .i64 (k : Int) ∧ Hid (SpJ H B g len i aa al ac w1 wk)) (fun kv _ => al - (intOf kv).toNat)
    case atStart => exact ⟨0, Nat.zero_le _, rfl, HJ0⟩
    case round =>
      rename World => wk
      obtain ⟨k, hk, rfl, HJ⟩ := hrel
      clear HJ0
      have d1 := cell_mv HJ.out.sp.mv HB1.out (by have := HBW.out; omega)
      obtain ⟨cs5, hcs5, hc5⟩ := HJ.out.cell
      have d2 : wk.cell? ⟨g, i * 5, none⟩ = some (.slice aa al ac) := by rw [cell_blk hcs5]; exact hc5
      clear hcs5 hc5
      rcases Nat.lt_or_ge k al with hkl | hkg
      case inr =>
        obtain rfl : k = al := by omega
        have hkg' : ¬ (k : Int) < (k : Int) := by omega
        have HSP : Hid (SpI H B g len w1 wk) := HJ.out.sp
        obtain ⟨cs, e1, e2, _⟩ := HJ.out.sp.nd.blk
        have hli := HLT.out
        have z0 := free_blk e1 (i * 5)
        have z1 := free_blk e1 (i * 5 + 1)
        have z2 := free_blk e1 (i * 5 + 2)
        have z3 := free_blk e1 (i * 5 + 3)
        have z4 := free_blk e1 (i * 5 + 4)
        obtain ⟨u1, q1⟩ := cells_at (o := 0) e1 (j := i * 5 + 1) (by omega)
        obtain ⟨u2, q2⟩ := cells_at (o := 0) e1 (j := i * 5 + 2) (by omega)
        obtain ⟨u3, q3⟩ := cells_at (o := 0) e1 (j := i * 5 + 3) (by omega)
        obtain ⟨u4, q4⟩ := cells_at (o := 0) e1 (j := i * 5 + 4) (by omega)
        have hlt' : (i : Int) < (len : Int) := by omega
        have HWR := hid (wr5 wk g (i * 5) 48 (.slice none 0 0) (.int .u64 66) (.bool false) (.bool false) (.bool false))
        clear hli e1 e2 HJ hkg hk
        go_upto_region 3 with fail
        clear z0 z1 z2 z3 z4 q1 q2 q3 q4 d1 d2
        generalize ((((wk.setCell ⟨g, i * 5, none⟩ (.slice none 0 0)).setCell ⟨g, i * 5 + 1, none⟩ (.int .u64 66)).setCell ⟨g, i * 5 + 2, none⟩ (.bool false)).setCell ⟨g, i * 5 + 3, none⟩ (.bool false)).setCell ⟨g, i * 5 + 4, none⟩ (.bool false) = w9 at *
        have HS9 := hid (HSP.out.node HLT.out HWR.out rfl)
        clear HWR HSP
        go_wp2
        go_roundw
        case rel => exact ⟨i + 1, HLT.out, by go_num, HS9.out.mv, fun _ => ⟨by first | rfl | trivial, HS9.out.nd⟩⟩
        case measure => have := HLT.out; simp [intOf]; omega
      have hkl' : (k : Int) < (al : Int) := by omega
      have hlt' : (i : Int) < (len : Int) := by have := HLT.out; omega
      have HKL := hid hkl
      obtain ⟨ga, rfl, _, ⟨ra, rl, rc, c3, hw3⟩, _, _, _, _, _, _⟩ := HJ.out.cells hkl
      have HW3 := hid hw3
      clear hw3 hk
      go_upto_region 8 with (go_at_call 22; refine (write_any _ H B _ _ _ HW3.out).mono ?_; rintro e w3 ⟨rfl, hs3⟩; have HJ3 := hid (HJ.out.sh hs3); clear hs3)
      clear d1 d2 c3 HW3 HJ
      have d1 := cell_mv HJ3.out.sp.mv HB1.out (by have := HBW.out; omega)
      obtain ⟨_, e3, d2, _, ⟨ra, rl, rc, c4, hw4⟩, _, _, _, _, _⟩ := HJ3.out.cells HKL.out
      cases e3
      have HW4 := hid hw4
      clear hw4
      go_upto_region 9 with (go_at_call 22; refine (write_any _ H B _ _ _ HW4.out).mono ?_; rintro e w4 ⟨rfl, hs4⟩; have HJ4 := hid (HJ3.out.sh hs4); clear hs4)
      clear d1 d2 c4 HW4 HJ3
      have d1 := cell_mv HJ4.out.sp.mv HB1.out (by have := HBW.out; omega)
      obtain ⟨_, e3, d2, ⟨_, _, _, q3, _⟩, ⟨_, _, _, q4, _⟩, ⟨_, q0⟩, ⟨_, q1⟩, ⟨_, q2⟩, ⟨_, q5⟩, z⟩ := HJ4.out.cells HKL.out
      cases e3
      have z0 := z (k * 6)
      have z1 := z (k * 6 + 1)
      have z2 := z (k * 6 + 2)
      have z3 := z (k * 6 + 3)
      have z4 := z (k * 6 + 4)
      have z5 := z (k * 6 + 5)
      have HWR := hid (wr6 w4 ga (k * 6) 51 (.int .i64 66) (.int .i64 (-5)) (.int .i64 0) (.slice none 0 0) (.slice none 0 0) (.int .u64 0))
      clear z
      go_upto_region 6 with fail
      clear z0 z1 z2 z3 z4 z5 q0 q1 q2 q3 q4 q5 d1 d2
      generalize (((((w4.setCell ⟨ga, k * 6, none⟩ (.int .i64 66)).setCell ⟨ga, k * 6 + 1, none⟩ (.int .i64 (-5))).setCell ⟨ga, k * 6 + 2, none⟩ (.int .i64 0)).setCell ⟨ga, k * 6 + 3, none⟩ (.slice none 0 0)).setCell ⟨ga, k * 6 + 4, none⟩ (.slice none 0 0)).setCell ⟨ga, k * 6 + 5, none⟩ (.int .u64 0) = w9 at *
      have HJ9 := hid (HJ4.out.arc HKL.out rfl HWR.out rfl rfl)
      clear HWR HJ4
      go_wp2
      go_roundw
      case rel => exact ⟨k + 1, HKL.out, by go_num, HJ9⟩
      case measure => have := HKL.out; simp [intOf]; omega

end Go.Proofs.Ytkjalclplfdpmaa
/-
  The reference's Check.
-/
set_option linter.unusedVariables false
set_option linter.unusedSimpArgs false
namespace Go.Proofs.Ytkjalclplfdpmaa
open Go.RowKit

/-- The first arcs of a node are fine. -/
def AllTo (ns : List Node) (x : Node) (k : Nat) : Prop := ∀ j (hj : j < x.arcs.length), j < k → arcB ns.length x.arcs[j] = true
/-- What Check knows: all is fine so far, or the graph may not be. -/
def FineTo (ns : List Node) (i : Nat) (fv av : Value) : Prop := (fv = .bool false ∧ mayN ns = false) ∨ (fv = .bool true ∧ MayTo ns i ∧ av = .int .i64 (arcsIn (ns.take i) : Int))
def FineIn (ns : List Node) (x : Node) (k : Nat) (fv : Value) : Prop := (fv = .bool false ∧ mayN ns = false) ∨ (fv = .bool true ∧ AllTo ns x k)

set_option maxHeartbeats 4000000 in
set_option maxRecDepth 20000 in
theorem rCheck_any (w : World) (ao : Option Addr) (cap : Nat) (ns : List Node) (h : NodesAt w w.heap.size ao ns) : Calls Try.prog 6 #[.agg #[.slice ao ns.length cap]] w fun e w' => e = .returned (.int .i64 (if mayN ns then 0 else 150)) ∧ Nu w w' := by
  have hlim := h.lim
  have HNS : Hid (NodesAt w w.heap.size ao ns) := h
  clear h
  obtain ⟨code, hcode⟩ : ∃ code : Int, (if mayN ns = true then (0 : Int) else 150) = code := ⟨_, rfl⟩
  rw [hcode]
  have HC0 : Hid (mayN ns = false → code = 150) := fun h => by rw [h] at hcode; exact hcode.symm
  have HC1 : Hid (mayN ns = true → code = 0) := fun h => by rw [h] at hcode; exact hcode.symm
  clear hcode
  go_enter Try.func6, Try.ntmps6
  go_upto_region 1 with fail
  have HN1 : Hid (Nu w (w.alloc (.cells #[.slice ao ns.length cap] 24))) := Mv.alloc _ _ _
  have HB1 : Hid ((w.alloc (.cells #[.slice ao ns.length cap] 24)).cell? ⟨w.heap.size, 0, none⟩ = some (.slice ao ns.length cap)) := cell_blk (heap_alloc_new w _) 0
  generalize w.alloc (.cells #[.slice ao ns.length cap] 24) = w1 at *
  have c1 := HB1.out
  obtain ⟨f0, hf0, HF0⟩ : ∃ f0 : Bool, f0 = (decide (1 ≤ (ns.length : Int)) && decide ((ns.length : Int) ≤ 20000)) ∧ Hid ((f0 = false → mayN ns = false) ∧ (f0 = true → 1 ≤ ns.length ∧ ns.length ≤ 20000)) := by
    refine ⟨_, rfl, fun hf => ?_, fun hf => ?_⟩
    · rw [Bool.and_eq_false_iff, decide_eq_false_iff_not, decide_eq_false_iff_not] at hf
      rcases hf with hf | hf
      · exact may_short (by omega)
      · exact may_long (by omega)
    · rw [Bool.and_eq_true, decide_eq_true_eq, decide_eq_true_eq] at hf
      omega
  go_upto_region 2 with fail
  clear c1
  have hz : ∀ K : Prop, True := fun _ => trivial
  rcases Bool.eq_false_or_eq_true f0 with hfv | hfv
  case inr =>
    have HE := hid (HF0.out.1 hfv)
    clear HF0
    subst hfv
    rcases Int.lt_or_le (ns.length : Int) 1 with h1 | h1
    · have h1' : ¬ (1 : Int) ≤ (ns.length : Int) := by omega
      clear hf0
      go_upto_region 4 with fail
      go_wp2
      go_loopw [4, 6] (fun fv iv wr => iv = .int .i64 0 ∧ fv = .bool false ∧ wr = w1) (fun _ _ _ => 0)
      case atStart => exact ⟨rfl, rfl, rfl⟩
      case round =>
        obtain ⟨rfl, rfl, rfl⟩ := hrel
        go_wp2
        go_ret
        exact ⟨by rw [HC0.out HE.out]; rfl, HN1.out⟩
    · have h1' : (1 : Int) ≤ (ns.length : Int) := by omega
      have h2' : ¬ (ns.length : Int) ≤ 20000 := by
        intro h2
        simp [h1', h2] at hf0
      clear hf0
      go_upto_region 4 with fail
      go_wp2
      go_loopw [4, 6] (fun fv iv wr => iv = .int .i64 0 ∧ fv = .bool false ∧ wr = w1) (fun _ _ _ => 0)
      case atStart => exact ⟨rfl, rfl, rfl⟩
      case round =>
        obtain ⟨rfl, rfl, rfl⟩ := hrel
        go_wp2
        go_ret
        exact ⟨by rw [HC0.out HE.out]; rfl, HN1.out⟩
  case inl =>
    have HSZ := hid (HF0.out.2 hfv)
    clear HF0 hf0
    subst hfv
    have h1' : (1 : Int) ≤ (ns.length : Int) := by have := HSZ.out; omega
    have h2' : (ns.length : Int) ≤ 20000 := by have := HSZ.out; omega
    go_upto_region 4 with fail
    clear h1' h2' hz
    go_wp2
    go_loopw [4, 5, 6] (fun fv av iv wr => ∃ (i : Nat), i ≤ ns.length ∧ iv = .int .i64 (i : Int) ∧ Hid (FineTo ns i fv av) ∧ Hid (Nu w1 wr)) (fun _ _ iv _ => ns.length - (intOf iv).toNat)
    case atStart => exact ⟨0, Nat.zero_le _, rfl, .inr ⟨rfl, ⟨HSZ.out.1, HSZ.out.2, Nat.zero_le _, fun x hx => by simp at hx⟩, rfl⟩, Mv.refl _ _⟩
    case round =>
      obtain ⟨i, hi, rfl, HF, HR⟩ := hrel
      rcases Nat.lt_or_ge i ns.length with hlt | hge
      case inr =>
        obtain rfl : i = ns.length := by omega
        rcases HF.out with ⟨rfl, hm⟩ | ⟨rfl, hm, _⟩
        · have HCX := HC0.out hm
          subst HCX
          clear hm HF HC0 HC1
          go_wp2
          go_ret
          exact ⟨rfl, mv0 HN1.out HR.out⟩
        · have HCX := HC1.out hm.done
          subst HCX
          clear hm HF HC0 HC1
          go_wp2
          go_ret
          exact ⟨rfl, mv0 HN1.out HR.out⟩
      have hlt' : (i : Int) < (ns.length : Int) := by omega
      rcases HF.out with ⟨rfl, hm⟩ | ⟨rfl, hm, rfl⟩
      · have HCX := HC0.out hm
        subst HCX
        clear hm HF HC0 HC1
        go_wp2
        go_ret
        exact ⟨rfl, mv0 HN1.out HR.out⟩
      have HM := hid hm
      have HLT : Hid (i < ns.length) := hlt
      have hnn := HNS.out.below (mv0 HN1.out HR.out).nu_below (mv0 HN1.out HR.out).size
      rcases hnn.row with h0 | ⟨b, off, rfl, hb, hit⟩
      · omega
      obtain ⟨⟨_, n0, aa, ac, rfl, haa⟩, _, _, _, _⟩ := hit i hlt
      have c1 := cell_mv HR.out HB1.out id
      have HAA : Hid (ArcsAt wr wr.heap.size aa ns[i].arcs) := haa
      have hal := haa.lim
      have hcnt := HM.out.cnt
      have HST : Hid (∀ ha, arcsIn (ns.take i) + ns[i].arcs.length ≤ 262144 → ns[i].arcs.all (arcB ns.length) = ha → ha = true → MayTo ns (i + 1)) := fun ha hc h1 h2 => HM.out.step hlt hc (h1.trans h2)
      have HMY : Hid (262144 < arcsIn (ns.take i) + ns[i].arcs.length → mayN ns = false) := fun hc => may_many hlt hc
      have HAR : Hid (∀ k (hk : k < ns[i].arcs.length), arcB ns.length ns[i].arcs[k] = false → mayN ns = false) := fun k hk hh => may_arc hlt hk hh
      have HTK : Hid (arcsIn (ns.take (i + 1)) = arcsIn (ns.take i) + ns[i].arcs.length) := arcsIn_take ns i hlt
      generalize ns[i] = x at *
      clear hnn hit hb haa hlt hm HF
      go_upto_region 9 with fail
      clear n0
      rcases Nat.lt_or_ge 262144 (arcsIn (ns.take i) + x.arcs.length) with ho | ho
      · have ho' : ¬ (arcsIn (ns.take i) : Int) + (x.arcs.length : Int) ≤ 262144 := by omega
        have HE : Hid (mayN ns = false) := HMY.out ho
        have HPZ : Hid (0 < x.arcs.length) := by show _ < _; omega
        clear ho
        go_upto_region 11 with fail
        clear ho'
        rename World => V
        go_wp2
        go_loopw [4, 8] (fun fv kv wr => kv = .int .i64 0 ∧ fv = .bool false ∧ wr = V) (fun _ _ _ => 0)
        case atStart => exact ⟨rfl, rfl, rfl⟩
        case round =>
          obtain ⟨rfl, rfl, rfl⟩ := hrel
          have hpz := HPZ.out
          go_wp2
          go_roundw
          case rel => exact ⟨i + 1, HLT.out, by go_num, .inl ⟨rfl, HE.out⟩, HR.out⟩
          case measure => have := HLT.out; simp [intOf]; omega
      · have ho' : (arcsIn (ns.take i) : Int) + (x.arcs.length : Int) ≤ 262144 := by omega
        have HO : Hid (arcsIn (ns.take i) + x.arcs.length ≤ 262144) := ho
        clear ho
        go_upto_region 11 with fail
        clear ho'
        rename World => V
        go_wp2
        go_loopw [4, 8] (fun fv kv wr => ∃ (k : Nat), k ≤ x.arcs.length ∧ kv = .int .i64 (k : Int) ∧ Hid (FineIn ns x k fv) ∧ Hid (Nu V wr)) (fun _ kv _ => x.arcs.length - (intOf kv).toNat)
        case atStart => exact ⟨0, Nat.zero_le _, rfl, .inr ⟨rfl, fun j hj h => absurd h (by omega)⟩, Mv.refl _ _⟩
        case round =>
          obtain ⟨k, hk, rfl, HG, HR2⟩ := hrel
          have HRR := hid (mv0 HR.out HR2.out)
          rcases Nat.lt_or_ge k x.arcs.length with hlt2 | hge2
          case inr =>
            obtain rfl : k = x.arcs.length := by omega
            rcases HG.out with ⟨rfl, hm⟩ | ⟨rfl, hm⟩
            · have HE := hid hm
              clear hm HG
              go_wp2
              go_roundw
              case rel => exact ⟨i + 1, HLT.out, by go_num, .inl ⟨rfl, HE.out⟩, HRR.out⟩
              case measure => have := HLT.out; simp [intOf]; omega
            · have HMN : Hid (MayTo ns (i + 1)) := HST.out _ HO.out rfl (by
                rw [List.all_eq_true]
                intro y hy
                obtain ⟨j, hj, rfl⟩ := List.mem_iff_getElem.1 hy
                exact hm j hj hj)
              clear hm HG
              go_wp2
              go_roundw
              case rel => exact ⟨i + 1, HLT.out, by go_num, .inr ⟨rfl, HMN.out, by rw [HTK.out]; go_num⟩, HRR.out⟩
              case measure => have := HLT.out; simp [intOf]; omega
          have hlt2' : (k : Int) < (x.arcs.length : Int) := by omega
          rcases HG.out with ⟨rfl, hm⟩ | ⟨rfl, hm⟩
          · have HE := hid hm
            clear hm HG
            go_wp2
            go_roundw
            case rel => exact ⟨i + 1, HLT.out, by go_num, .inl ⟨rfl, HE.out⟩, HRR.out⟩
            case measure => have := HLT.out; simp [intOf]; omega
          have HGG := hid hm
          clear hm HG
          have HLT2 : Hid (k < x.arcs.length) := hlt2
          have haa := HAA.out.below HR2.out.nu_below HR2.out.size
          rcases haa.row with h0 | ⟨b2, off2, rfl, _, hit2⟩
          · omega
          have hat := hit2 k hlt2
          have HAR2 := hid (HAR.out k hlt2)
          have HG2 : Hid (arcB ns.length x.arcs[k] = true → AllTo ns x (k + 1)) := fun hv j hj h => by
            rcases Nat.lt_or_ge j k with h1 | h1
            · exact HGG.out j hj h1
            · obtain rfl : j = k := by omega
              exact hv
          generalize x.arcs[k] = a at *
          obtain ⟨a0, a1, a2, ⟨_, a3, ra, rc, rfl, hra⟩, ⟨_, a4, wa, wc, rfl, hwa⟩, a5⟩ := hat
          have HRA := hid hra
          have HWA := hid hwa
          clear hra hwa haa hit2 hlt2 c1
          go_upto_region 14 with fail
          clear a0 a1 a2 a3 a4 a5
          have HN4 := hid (Mv.alloc (fun _ => False) wr (.cells #[.int .i64 a.proc, .int .i64 a.to, .int .i64 a.bad, .slice ra a.reads.length rc, .slice wa a.writes.length wc, .int .u64 a.turns] 51))
          have HB4 := hid (heap_alloc_new wr (.cells #[.int .i64 a.proc, .int .i64 a.to, .int .i64 a.bad, .slice ra a.reads.length rc, .slice wa a.writes.length wc, .int .u64 a.turns] 51))
          have HXB : Hid (∀ A : World, A = A) := fun _ => rfl
          generalize hxb : wr.heap.size = xb at *
          generalize wr.alloc (.cells #[.int .i64 a.proc, .int .i64 a.to, .int .i64 a.bad, .slice ra a.reads.length rc, .slice wa a.writes.length wc, .int .u64 a.turns] 51) = w4 at *
          have HW4 : Hid (IntsAt w4 w4.heap.size ra a.reads ∧ IntsAt w4 w4.heap.size wa a.writes) := ⟨HRA.out.below (hxb ▸ HN4.out.nu_below) (by rw [← hxb]; exact HN4.out.size), HWA.out.below (hxb ▸ HN4.out.nu_below) (by rw [← hxb]; exact HN4.out.size)⟩
          clear hxb
          have HRS : Hid (Nu w1 w4) := mv0 HRR.out HN4.out
          obtain ⟨p0, p1, p2, p3, p4, p5⟩ := cells6 HB4.out
          go_upto_region 15 with (go_at_call 17; refine (rSet_any _ _ ra rc _ HW4.out.1).mono ?_; rintro e w5 ⟨rfl, hn5⟩; have HN5 := hid hn5; clear hn5)
          have HB5 := hid (HN5.out.heap HB4.out id)
          have HW5 := hid (HW4.out.2.below HN5.out.nu_below HN5.out.size)
          clear p0 p1 p2 p3 p4 p5
          obtain ⟨p0, p1, p2, p3, p4, p5⟩ := cells6 HB5.out
          go_upto_region 16 with (go_at_call 17; refine (rSet_any _ _ wa wc _ HW5.out).mono ?_; rintro e w6 ⟨rfl, hn6⟩; have HN6 := hid hn6; clear hn6)
          have HB6 := hid (HN6.out.heap HB5.out id)
          have HNE : Hid (Nu V w6) := mv0 (mv0 (mv0 HR2.out HN4.out) HN5.out) HN6.out
          clear p0 p1 p2 p3 p4 p5 HB4 HB5 HW4 HW5 HN4 HN5 HN6 HRS HXB
          obtain ⟨p0, p1, p2, p3, p4, p5⟩ := cells6 HB6.out
          unfold arcB at HAR2 HG2
          generalize riseB a.reads = r1 at HAR2 HG2 ⊢
          generalize riseB a.writes = r2 at HAR2 HG2 ⊢
          cases r1
          case false =>
            have HE : Hid (mayN ns = false) := HAR2.out (by simp)
            clear HAR2 HG2
            go_wp2
            go_roundw
            case rel => exact ⟨k + 1, HLT2.out, by go_num, .inl ⟨rfl, HE.out⟩, HNE.out⟩
            case measure => have := HLT2.out; simp [intOf]; omega
          case true =>
            cases r2
            case false =>
              have HE : Hid (mayN ns = false) := HAR2.out (by simp)
              clear HAR2 HG2
              go_wp2
              go_roundw
              case rel => exact ⟨k + 1, HLT2.out, by go_num, .inl ⟨rfl, HE.out⟩, HNE.out⟩
              case measure => have := HLT2.out; simp [intOf]; omega
            case true =>
              by_cases g0 : ((-1 : Int) ≤ a.proc)
              case neg =>
                have HE : Hid (mayN ns = false) := HAR2.out (by simp [g0])
                clear HAR2 HG2
                go_wp2
                go_roundw
                case rel => exact ⟨k + 1, HLT2.out, by go_num, .inl ⟨rfl, HE.out⟩, HNE.out⟩
                case measure => have := HLT2.out; simp [intOf]; omega
              case pos =>
                by_cases g1 : (a.proc ≤ 15)
                case neg =>
                  have HE : Hid (mayN ns = false) := HAR2.out (by simp [g0, g1])
                  clear HAR2 HG2
                  go_wp2
                  go_roundw
                  case rel => exact ⟨k + 1, HLT2.out, by go_num, .inl ⟨rfl, HE.out⟩, HNE.out⟩
                  case measure => have := HLT2.out; simp [intOf]; omega
                case pos =>
                  by_cases g2 : ((0 : Int) ≤ a.bad)
                  case neg =>
                    have HE : Hid (mayN ns = false) := HAR2.out (by simp [g0, g1, g2])
                    clear HAR2 HG2
                    go_wp2
                    go_roundw
                    case rel => exact ⟨k + 1, HLT2.out, by go_num, .inl ⟨rfl, HE.out⟩, HNE.out⟩
                    case measure => have := HLT2.out; simp [intOf]; omega
                  case pos =>
                    by_cases g3 : (a.bad ≤ 5)
                    case neg =>
                      have HE : Hid (mayN ns = false) := HAR2.out (by simp [g0, g1, g2, g3])
                      clear HAR2 HG2
                      go_wp2
                      go_roundw
                      case rel => exact ⟨k + 1, HLT2.out, by go_num, .inl ⟨rfl, HE.out⟩, HNE.out⟩
                      case measure => have := HLT2.out; simp [intOf]; omega
                    case pos =>
                      by_cases g4 : ((0 : Int) ≤ a.to)
                      case neg =>
                        have HE : Hid (mayN ns = false) := HAR2.out (by simp [g0, g1, g2, g3, g4])
                        clear HAR2 HG2
                        go_wp2
                        go_roundw
                        case rel => exact ⟨k + 1, HLT2.out, by go_num, .inl ⟨rfl, HE.out⟩, HNE.out⟩
                        case measure => have := HLT2.out; simp [intOf]; omega
                      case pos =>
                        by_cases g5 : (a.to < (ns.length : Int))
                        case neg =>
                          have HE : Hid (mayN ns = false) := HAR2.out (by simp [g0, g1, g2, g3, g4, g5])
                          clear HAR2 HG2
                          go_wp2
                          go_roundw
                          case rel => exact ⟨k + 1, HLT2.out, by go_num, .inl ⟨rfl, HE.out⟩, HNE.out⟩
                          case measure => have := HLT2.out; simp [intOf]; omega
                        case pos =>
                          by_cases g7 : a.bad = 0
                          case pos =>
                            have g7q : (a.bad == 0) = true := by simpa using g7
                            have HE := hid (HG2.out (by simp [g0, g1, g2, g3, g4, g5, g7]))
                            clear HAR2 HG2
                            go_wp2
                            go_roundw
                            case rel => exact ⟨k + 1, HLT2.out, by go_num, .inr ⟨rfl, HE.out⟩, HNE.out⟩
                            case measure => have := HLT2.out; simp [intOf]; omega
                          case neg =>
                            have g7q : (a.bad == 0) = false := by simpa using g7
                            by_cases g8 : a.to = 0
                            case pos =>
                              have g8q : (a.to == 0) = true := by simpa using g8
                              have HE := hid (HG2.out (by simp [g0, g1, g2, g3, g4, g5, g7, g8]; have := HSZ.out; omega))
                              clear HAR2 HG2
                              go_wp2
                              go_roundw
                              case rel => exact ⟨k + 1, HLT2.out, by go_num, .inr ⟨rfl, HE.out⟩, HNE.out⟩
                              case measure => have := HLT2.out; simp [intOf]; omega
                            case neg =>
                              have g8q : (a.to == 0) = false := by simpa using g8
                              have HE : Hid (mayN ns = false) := HAR2.out (by simp [g0, g1, g2, g3, g4, g5, g7, g8])
                              clear HAR2 HG2
                              go_wp2
                              go_roundw
                              case rel => exact ⟨k + 1, HLT2.out, by go_num, .inl ⟨rfl, HE.out⟩, HNE.out⟩
                              case measure => have := HLT2.out; simp [intOf]; omega

end Go.Proofs.Ytkjalclplfdpmaa
