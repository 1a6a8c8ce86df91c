/-
  GOwn0, GOwn.
-/
import Derived.Test.YtkjalclplfdpmaaM13
import Derived.Test.YtkjalclplfdpmaaM34
import Derived.Test.YtkjalclplfdpmaaM36
/-
  A graph in memory of one's own, while it is built: laws on worlds.
-/
set_option linter.unusedVariables false
set_option linter.unusedSimpArgs false
namespace Go.Proofs.Ytkjalclplfdpmaa
open Go.RowKit

/-- A graph that memory can hold. -/
structure FitN (ns : List Node) : Prop where
  n : ns.length * 40 ≤ 140737488351232
  a : ∀ x ∈ ns, x.arcs.length * 80 ≤ 140737488351232

/-- A node of one's own: its arcs lie in a block of their own, its numbers in rows of their own. -/
structure NXW (A : World) (H : Nat) (y : NX) : Prop where
  eq : y.xs.map AX.a = y.nd.arcs
  lim : (y.xs.length : Int) ≤ 17592186044416
  blk : ∃ g cs, y.vo = some ⟨g, 0, none⟩ ∧ H ≤ g ∧ A.heap[g]? = some (.cells cs 51 (0, 0)) ∧ y.xs.length * 6 ≤ cs.size ∧ ∀ i (h : i < y.xs.length), AXAt A g (i * 6) y.xs[i]
  ow : ∀ x ∈ y.xs, OwnI A H x.ra x.rc x.a.reads ∧ OwnI A H x.wa x.wc x.a.writes

theorem OwnI.mvT {S : Nat → Prop} {A A' : World} {H : Nat} {ao : Option Addr} {c : Nat} {xs : List Int} (ho : OwnI A H ao c xs) (hm : Mv S A A') (hS : ∀ (g : Nat) (cs : Array Value), A.heap[g]? = some (.cells cs 3 (0, 0)) → ¬ S g) : OwnI A' H ao c xs :=
  ho.mv hm (fun a hc ha => by
    rcases ho.row with h0 | ⟨g, cs, hg, _, hb, _⟩
    · omega
    · rw [hg] at ha; cases ha; exact hS _ _ hb) (Nat.le_refl _)

theorem NXW.mv {S : Nat → Prop} {A A' : World} {H : Nat} {y : NX} (h : NXW A H y) (hm : Mv S A A') (hS : ∀ (g : Nat) (cs : Array Value) (t : TypeId), A.heap[g]? = some (.cells cs t (0, 0)) → (t = 51 ∨ t = 3) → ¬ S g) : NXW A' H y := by
  obtain ⟨g, cs, h1, h2, h3, h4, h5⟩ := h.blk
  have hg := hS g cs _ h3 (.inl rfl)
  have k (ao : Option Addr) (c : Nat) (xs : List Int) (ho : OwnI A H ao c xs) : OwnI A' H ao c xs := ho.mvT hm (fun g cs hb => hS _ _ _ hb (.inr rfl))
  exact ⟨h.eq, h.lim, ⟨g, cs, h1, h2, hm.heap h3 hg, h4, fun i hi => (h5 i hi).mv hm hg⟩, fun x hx => ⟨k _ _ _ (h.ow x hx).1, k _ _ _ (h.ow x hx).2⟩⟩
theorem NXW.nu {A A' : World} {H : Nat} {y : NX} (h : NXW A H y) (hm : Nu A A') : NXW A' H y := h.mv hm (fun _ _ _ _ _ => id)

/-- What is known between two nodes. -/
structure OO (H : Nat) (w A : World) (tb : Nat) (no : Option Addr) (nc : Nat) (nodes : List Node) (nxs : List NX) : Prop where
  tbx : A.heap[tb]? = some (.cells #[.slice no nodes.length nc] 24 (0, 0))
  row : A.ownsRow H 48 5 (.slice no nodes.length nc) nodes.length (nxflat nxs)
  eq : nxs.map NX.nd = nodes
  nz : ∀ y ∈ nxs, NXW A H y
  mv : Mv (· = tb) w A
  hs : w.heap.size = H
theorem OO.nu {H : Nat} {w A A' : World} {tb : Nat} {no : Option Addr} {nc : Nat} {nodes : List Node} {nxs : List NX} (h : OO H w A tb no nc nodes nxs) (hm : Nu A A') : OO H w A' tb no nc nodes nxs :=
  ⟨hm.heap h.tbx id, row_mv hm h.row (fun _ _ => id), h.eq, fun y hy => (h.nz y hy).nu hm, nu_mv h.mv hm, h.hs⟩

theorem OO.node {H : Nat} {w A A1 A2 : World} {tb : Nat} {no : Option Addr} {nc : Nat} {nodes : List Node} {nxs : List NX} {y : NX} {g' nc' : Nat} (h : OO H w A tb no nc nodes nxs) (hy : NXW A H y) (hn : Nu A A1) (hg : A1.grownBy A2 (Value.slice no nodes.length nc).ownBlock)
    (hr : A2.ownsRow H 48 5 (.slice (some ⟨g', 0, none⟩) (nodes.length + 1) nc') (nodes.length + 1) (nxflat nxs ++ y.cells)) :
    OO H w (A2.setCell ⟨tb, 0, none⟩ (.slice (some ⟨g', 0, none⟩) (nodes.length + 1) nc')) tb (some ⟨g', 0, none⟩) nc' (nodes ++ [y.nd]) (nxs ++ [y]) := by
  have t1 := h.nu hn
  have y1 := hy.nu hn
  have hm2 := Mv.grown hg
  have hm3 := Mv.setCell A2 ⟨tb, 0, none⟩ (.slice (some ⟨g', 0, none⟩) (nodes.length + 1) nc')
  have hm12 : Mv (fun b => (Value.slice no nodes.length nc).ownBlock = some b ∨ b = tb) A1 (A2.setCell ⟨tb, 0, none⟩ (.slice (some ⟨g', 0, none⟩) (nodes.length + 1) nc')) := (hm2.mono (fun x hx => .inl (.inl hx))).trans hm3 (fun x hx => .inl (.inr hx))
  have hnr : ∀ (b : Nat) (cs : Array Value) (t : TypeId), A1.heap[b]? = some (.cells cs t (0, 0)) → (t = 51 ∨ t = 3) → ¬ ((Value.slice no nodes.length nc).ownBlock = some b ∨ b = tb) := fun b cs t hb ht hx => by
    rcases hx with hx | hx
    · obtain ⟨_, _, cs', hc⟩ := row_blk t1.row hx
      rw [hb] at hc; simp only [Option.some.injEq, Obj.cells.injEq] at hc
      rcases ht with ht | ht <;> rw [ht] at hc <;> exact absurd hc.2.1 (by decide)
    · rw [hx, t1.tbx] at hb; simp only [Option.some.injEq, Obj.cells.injEq] at hb
      rcases ht with ht | ht <;> rw [ht] at hb <;> exact absurd hb.2.1 (by decide)
  have htb2 : A2.heap[tb]? = _ := hm2.heap t1.tbx (fun e => by
    obtain ⟨_, _, cs', hc⟩ := row_blk t1.row e
    rw [t1.tbx] at hc; simp at hc)
  have hl : (nodes ++ [y.nd]).length = nodes.length + 1 := by simp
  refine ⟨?_, ?_, by simp [h.eq], fun z hz => ?_, ?_, h.hs⟩
  · rw [setCell_blk htb2, hl]; rfl
  · rw [hl, nxflat_snoc]
    exact row_mv hm3 hr (fun k hk e => by
      obtain ⟨_, _, cs, hc⟩ := row_blk hr hk
      simp only at e
      rw [e, htb2] at hc; simp at hc)
  · rcases List.mem_append.1 hz with hz | hz
    · exact (t1.nz z hz).mv hm12 hnr
    · rw [List.mem_singleton.1 hz]; exact y1.mv hm12 hnr
  · exact t1.mv.trans hm12 (fun b hb => by
      rcases hb with hb | hb
      · exact .inr (by have := (row_blk t1.row hb).1; have := h.hs; omega)
      · exact .inl hb)

/-- What is known between two arcs. -/
structure InO (W A : World) (H g xb : Nat) (l : List Arc) (Z6 : List Value) (bx : Array Value) (L : List AX) (k : Nat) : Prop where
  eq : L.map AX.a = l
  blk : A.heap[g]? = some (.cells (axflat L ++ Z6).toArray 51 (0, 0))
  box : A.heap[xb]? = some (.cells bx 48 (0, 0))
  ow : ∀ j (h : j < L.length), j < k → OwnI A H L[j].ra L[j].rc L[j].a.reads ∧ OwnI A H L[j].wa L[j].wc L[j].a.writes
  nu : Nu W A
  gw : W.heap.size ≤ g
  xw : W.heap.size ≤ xb

theorem InO.ne {W A : World} {H g xb : Nat} {l : List Arc} {Z6 : List Value} {bx : Array Value} {L : List AX} {k : Nat} (h : InO W A H g xb l Z6 bx L k) : xb ≠ g := fun e => by
  have := h.box
  rw [e, h.blk] at this
  simp at this
theorem InO.len {W A : World} {H g xb : Nat} {l : List Arc} {Z6 : List Value} {bx : Array Value} {L : List AX} {k : Nat} (h : InO W A H g xb l Z6 bx L k) : L.length = l.length := by rw [← h.eq, List.length_map]
theorem InO.nuA {W A A1 : World} {H g xb : Nat} {l : List Arc} {Z6 : List Value} {bx : Array Value} {L : List AX} {k : Nat} (h : InO W A H g xb l Z6 bx L k) (hn : Nu A A1) : InO W A1 H g xb l Z6 bx L k :=
  ⟨h.eq, hn.heap h.blk id, hn.heap h.box id, fun j hj hk => ⟨(h.ow j hj hk).1.mvT hn (fun _ _ _ => id), (h.ow j hj hk).2.mvT hn (fun _ _ _ => id)⟩, mv0 h.nu hn, h.gw, h.xw⟩

theorem InO.set {W A : World} {H g xb : Nat} {l : List Arc} {Z6 : List Value} {bx : Array Value} {L : List AX} {k : Nat} (h : InO W A H g xb l Z6 bx L k) {i f : Nat} {u : Value} {x' : AX} (hi : i < L.length) (hf : f < 6) (hx : x'.cells = (L[i]).cells.set f u) (ha : x'.a = L[i].a) (hk : k ≤ i) :
    InO W (A.setCell ⟨g, i * 6 + f, none⟩ u) H g xb l Z6 bx (L.set i x') k ∧ Mv (· = g) A (A.setCell ⟨g, i * 6 + f, none⟩ u) := by
  have hm := Mv.setCell A ⟨g, i * 6 + f, none⟩ u
  have hno : ∀ (b : Nat) (cs : Array Value), A.heap[b]? = some (.cells cs 3 (0, 0)) → ¬ b = g := fun b cs hb e => by
    rw [e, h.blk] at hb; simp at hb
  refine ⟨⟨?_, ?_, hm.heap h.box (fun e => h.ne e), fun j hj hjk => ?_, h.nu.trans hm (fun x hx => .inr (by have : x = g := hx; have := h.gw; omega)), h.gw, h.xw⟩, hm⟩
  · rw [List.map_set, ha, ← List.getElem_map (l := L) AX.a (h := by simpa using hi), List.set_getElem_self]; exact h.eq
  · rw [setCell_blk h.blk, List.setIfInBounds_toArray, List.set_append_left _ _ (by rw [axflat_length]; omega), axflat_set hi hf hx]
  · have hj' : j < L.length := by simpa using hj
    rw [List.getElem_set_ne (by omega)]
    exact ⟨(h.ow j hj' hjk).1.mvT hm hno, (h.ow j hj' hjk).2.mvT hm hno⟩

theorem InO.reads {W A A1 : World} {H g xb : Nat} {l : List Arc} {Z6 : List Value} {bx : Array Value} {L : List AX} {k : Nat} (h0 : InO W A H g xb l Z6 bx L k) (hn : Nu A A1) {a : Arc} (ha : l[k]? = some a) {r rc : Nat} (ho : OwnI A1 H (some ⟨r, 0, none⟩) rc a.reads) :
    ∃ L', InO W (A1.setCell ⟨g, k * 6 + 3, none⟩ (.slice (some ⟨r, 0, none⟩) a.reads.length rc)) H g xb l Z6 bx L' k ∧ ∃ hk : k < L'.length, OwnI (A1.setCell ⟨g, k * 6 + 3, none⟩ (.slice (some ⟨r, 0, none⟩) a.reads.length rc)) H L'[k].ra L'[k].rc a.reads := by
  have h := h0.nuA hn
  have hk : k < L.length := by rw [h.len]; exact (List.getElem?_eq_some_iff.1 ha).1
  have hka : L[k].a = a := by
    have := congrArg (fun l => l[k]?) h.eq
    simp only [List.getElem?_map, List.getElem?_eq_getElem hk, Option.map_some] at this
    rw [ha] at this
    exact Option.some.inj this
  obtain ⟨h1, hm⟩ := h.set (i := k) (f := 3) (u := .slice (some ⟨r, 0, none⟩) a.reads.length rc) (x' := ⟨L[k].a, some ⟨r, 0, none⟩, rc, L[k].wa, L[k].wc⟩) hk (by decide) (by rw [← hka]; rfl) rfl (Nat.le_refl _)
  refine ⟨_, h1, by simpa using hk, ?_⟩
  rw [List.getElem_set_self]
  exact ho.mvT hm (fun b cs hb e => by
    have e' : b = g := e
    rw [e', h.blk] at hb; simp at hb)

theorem InO.writes {W A A1 : World} {H g xb : Nat} {l : List Arc} {Z6 : List Value} {bx : Array Value} {L : List AX} {k : Nat} (h0 : InO W A H g xb l Z6 bx L k) (hn : Nu A A1) {a : Arc} (ha : l[k]? = some a) (hk : k < L.length) (hr : OwnI A H L[k].ra L[k].rc a.reads) {r rc : Nat} (ho : OwnI A1 H (some ⟨r, 0, none⟩) rc a.writes) :
    ∃ L', InO W (A1.setCell ⟨g, k * 6 + 4, none⟩ (.slice (some ⟨r, 0, none⟩) a.writes.length rc)) H g xb l Z6 bx L' (k + 1) := by
  have h := h0.nuA hn
  have hr1 := hr.mvT hn (fun _ _ _ => id)
  have hka : L[k].a = a := by
    have := congrArg (fun l => l[k]?) h.eq
    simp only [List.getElem?_map, List.getElem?_eq_getElem hk, Option.map_some] at this
    rw [ha] at this
    exact Option.some.inj this
  obtain ⟨h1, hm⟩ := h.set (i := k) (f := 4) (u := .slice (some ⟨r, 0, none⟩) a.writes.length rc) (x' := ⟨L[k].a, L[k].ra, L[k].rc, some ⟨r, 0, none⟩, rc⟩) hk (by decide) (by rw [← hka]; rfl) rfl (Nat.le_refl _)
  have hno : ∀ (b : Nat) (cs : Array Value), A1.heap[b]? = some (.cells cs 3 (0, 0)) → ¬ b = g := fun b cs hb e => by
    rw [e, h.blk] at hb; simp at hb
  refine ⟨_, h1.eq, h1.blk, h1.box, fun j hj hjk => ?_, h1.nu, h1.gw, h1.xw⟩
  rcases Nat.lt_or_ge j k with hlt | hge
  · exact h1.ow j hj hlt
  · obtain rfl : j = k := by omega
    rw [List.getElem_set_self]
    simp only [hka]
    exact ⟨hr1.mvT hm hno, ho.mvT hm hno⟩

theorem InO.mark {W A : World} {H g xb : Nat} {l : List Arc} {Z6 : List Value} {bx : Array Value} {L : List AX} {k : Nat} (h : InO W A H g xb l Z6 bx L k) (u : Value) : InO W (A.setCell ⟨g, l.length * 6, none⟩ u) H g xb l (Z6.set 0 u) bx L k := by
  have hm := Mv.setCell A ⟨g, l.length * 6, none⟩ u
  have hno : ∀ (b : Nat) (cs : Array Value), A.heap[b]? = some (.cells cs 3 (0, 0)) → ¬ b = g := fun b cs hb e => by
    rw [e, h.blk] at hb; simp at hb
  refine ⟨h.eq, ?_, hm.heap h.box (fun e => h.ne e), fun j hj hjk => ⟨(h.ow j hj hjk).1.mvT hm hno, (h.ow j hj hjk).2.mvT hm hno⟩, h.nu.trans hm (fun x hx => .inr (by have : x = g := hx; have := h.gw; omega)), h.gw, h.xw⟩
  rw [setCell_blk h.blk, List.setIfInBounds_toArray, List.set_append_right _ _ (by rw [axflat_length, h.len]; omega), axflat_length, h.len, Nat.sub_self]

theorem InO.boxed {W A : World} {H g xb : Nat} {l : List Arc} {Z6 : List Value} {bx : Array Value} {L : List AX} {k : Nat} (h : InO W A H g xb l Z6 bx L k) (u : Value) : InO W (A.setCell ⟨xb, 0, none⟩ u) H g xb l Z6 (bx.setIfInBounds 0 u) L k := by
  have hm := Mv.setCell A ⟨xb, 0, none⟩ u
  have hno : ∀ (b : Nat) (cs : Array Value), A.heap[b]? = some (.cells cs 3 (0, 0)) → ¬ b = xb := fun b cs hb e => by
    rw [e, h.box] at hb; simp at hb
  exact ⟨h.eq, hm.heap h.blk (fun e => h.ne e.symm), setCell_blk h.box, fun j hj hjk => ⟨(h.ow j hj hjk).1.mvT hm hno, (h.ow j hj hjk).2.mvT hm hno⟩, h.nu.trans hm (fun x hx => .inr (by have : x = xb := hx; have := h.xw; omega)), h.gw, h.xw⟩

theorem InO.node {W A : World} {H g xb : Nat} {Z6 : List Value} {bx : Array Value} {L : List AX} {x : Node} (h : InO W A H g xb x.arcs Z6 bx L x.arcs.length) (hg : H ≤ g) (hl : (x.arcs.length : Int) ≤ 17592186044416) (vc : Nat) : NXW A H ⟨x, L, some ⟨g, 0, none⟩, vc⟩ := by
  have hlen := h.len
  refine ⟨h.eq, by show (L.length : Int) ≤ _; omega, ⟨g, _, rfl, hg, h.blk, by simp [axflat_length], fun i hi => ?_⟩, fun y hy => ?_⟩
  · have hi' : i < L.length := hi
    have hc : ∀ q v, q < 6 → (L[i].cells)[q]? = some v → A.cell? ⟨g, i * 6 + q, none⟩ = some v := fun q v hq hv => by
      rw [cell_blk h.blk, List.getElem?_toArray, List.getElem?_append_left (by rw [axflat_length]; omega), axflat_get L i hi' q hq]
      exact hv
    exact ⟨hc 0 _ (by omega) rfl, hc 1 _ (by omega) rfl, hc 2 _ (by omega) rfl, hc 3 _ (by omega) rfl, hc 4 _ (by omega) rfl, hc 5 _ (by omega) rfl⟩
  · obtain ⟨i, hi, rfl⟩ := List.getElem_of_mem hy
    exact h.ow i hi (by have : i < L.length := hi; omega)

/-- A graph in memory of one's own. -/
structure OwnN (A : World) (H : Nat) (no : Option Addr) (nc : Nat) (ns : List Node) (nxs : List NX) : Prop where
  row : A.ownsRow H 48 5 (.slice no ns.length nc) ns.length (nxflat nxs)
  eq : nxs.map NX.nd = ns
  nz : ∀ y ∈ nxs, NXW A H y

theorem NXW.z {A : World} {H : Nat} {y : NX} (h : NXW A H y) : NXZ A (fun b => b < A.heap.size) y := by
  refine ⟨h.eq, h.lim, ?_, fun x hx => ⟨(h.ow x hx).1.at.z (fun _ h => h), (h.ow x hx).2.at.z (fun _ h => h)⟩⟩
  obtain ⟨g, cs, h1, _, h3, _, h5⟩ := h.blk
  exact .inr ⟨g, 0, h1, lt_of_block h3, fun i hi => by rw [Nat.zero_add]; exact h5 i hi⟩
theorem OwnN.at {A : World} {H : Nat} {no : Option Addr} {nc : Nat} {ns : List Node} {nxs : List NX} (h : OwnN A H no nc ns nxs) (hl : (ns.length : Int) ≤ 17592186044416) : NodesAt A A.heap.size no ns := by
  have hlx : nxs.length = ns.length := by rw [← h.eq, List.length_map]
  have hr := h.row
  rw [← hlx] at hr
  have := nodes_of_row (Z := fun b => b < A.heap.size) hr (by omega) (fun y hy => (h.nz y hy).z) (fun b hb => hb)
  rwa [h.eq] at this

theorem row_low {A : World} {H H' : Nat} {e : TypeId} {size : Nat} {v : Value} {n : Nat} {xs : List Value} (h : A.ownsRow H e size v n xs) (hl : H' ≤ H) : A.ownsRow H' e size v n xs :=
  ⟨h.1, h.2.imp id fun ⟨g, cap, cur, hv, hB, r⟩ => ⟨g, cap, cur, hv, Nat.le_trans hl hB, r⟩⟩
theorem NXW.low {A : World} {H H' : Nat} {y : NX} (h : NXW A H y) (hl : H' ≤ H) : NXW A H' y := by
  obtain ⟨g, cs, h1, h2, r⟩ := h.blk
  have k (ao : Option Addr) (c : Nat) (xs : List Int) (ho : OwnI A H ao c xs) : OwnI A H' ao c xs := ho.mv (Mv.refl (fun _ => False) A) (fun _ _ _ => id) hl
  exact ⟨h.eq, h.lim, ⟨g, cs, h1, by omega, r⟩, fun x hx => ⟨k _ _ _ (h.ow x hx).1, k _ _ _ (h.ow x hx).2⟩⟩

theorem OO.done {H : Nat} {w w3 A : World} {tb rb : Nat} {no : Option Addr} {nc : Nat} {ns : List Node} {nxs : List NX} {v u : Value} (h : OO H w3 A tb no nc ns nxs) (hn : Nu w w3) (hr : A.heap[rb]? = some (.cells #[v] 24 (0, 0))) (hrb : w.heap.size ≤ rb) (htb : w.heap.size ≤ tb) :
    Nu w (A.setCell ⟨rb, 0, none⟩ u) ∧ OwnN (A.setCell ⟨rb, 0, none⟩ u) w.heap.size no nc ns nxs := by
  have hm := Mv.setCell A ⟨rb, 0, none⟩ u
  have hty : ∀ (g : Nat) (cs : Array Value) (t : TypeId), A.heap[g]? = some (.cells cs t (0, 0)) → t ≠ 24 → ¬ g = rb := fun g cs t hg ht e => by
    rw [e, hr] at hg
    simp only [Option.some.injEq, Obj.cells.injEq] at hg
    exact ht hg.2.1.symm
  have hH : w.heap.size ≤ H := by rw [← h.hs]; exact hn.size
  refine ⟨?_, row_low (row_mv hm h.row (fun k hk => ?_)) hH, h.eq, fun y hy => ((h.nz y hy).mv hm (fun g cs t hg ht => hty g cs t hg (by rcases ht with rfl | rfl <;> decide))).low hH⟩
  · have h1 : Mv (fun b => b = tb ∨ b = rb) w3 (A.setCell ⟨rb, 0, none⟩ u) := (h.mv.mono (fun x hx => .inl (.inl hx))).trans hm (fun x hx => .inl (.inr hx))
    exact hn.trans h1 (fun x hx => .inr (by rcases hx with rfl | rfl <;> omega))
  · obtain ⟨_, _, cs, hc⟩ := row_blk h.row hk
    exact hty k cs _ hc (by decide)

end Go.Proofs.Ytkjalclplfdpmaa
/-
  The statement's own: a graph in memory of its own.
-/
set_option linter.unusedVariables false
set_option linter.unusedSimpArgs false
namespace Go.Proofs.Ytkjalclplfdpmaa
open Go.RowKit

theorem g_sizeArc : (Try.prog.info? 51).map (·.size) = some 6 := by kernel_rfl

theorem take_snoc {ns : List Node} {nodes : List Node} {x : Node} (h : nodes = ns.take nodes.length) (hx : ns[nodes.length]? = some x) : nodes ++ [x] = ns.take (nodes ++ [x]).length := by
  rw [List.length_append, List.length_singleton, List.take_add_one, hx, ← h]
  rfl

set_option maxHeartbeats 8000000 in
set_option maxRecDepth 200000 in
theorem own_any (w : World) {ao : Option Addr} {cap : Nat} (ns : List Node) (h : NodesAt w w.heap.size ao ns) (hf : FitN ns) :
    Calls Try.prog 4 #[.agg #[.slice ao ns.length cap]] w fun e w' => Nu w w' ∧ ∃ no nc, e = .returned (.agg #[.slice no ns.length nc]) ∧ ∃ nxs, OwnN w' w.heap.size no nc ns nxs := by
  have hlim := h.lim
  have HFIT := hid hf
  have HN1 : Hid (Nu w (((w.alloc (.cells #[.slice ao ns.length cap] 24)).alloc (.cells #[.slice none 0 0] 24)).alloc (.cells #[.slice none 0 0] 24))) := mv0 (mv0 (Mv.alloc _ _ _) (Mv.alloc _ _ _)) (Mv.alloc _ _ _)
  have HNB : Hid ((((w.alloc (.cells #[.slice ao ns.length cap] 24)).alloc (.cells #[.slice none 0 0] 24)).alloc (.cells #[.slice none 0 0] 24)).cell? ⟨w.heap.size, 0, none⟩ = some (.slice ao ns.length cap)) := cell_mv (mv0 (Mv.alloc (fun _ => False) _ _) (Mv.alloc _ _ _)) (cell_blk (box_new w _ _) 0) id
  have HRB : Hid ((((w.alloc (.cells #[.slice ao ns.length cap] 24)).alloc (.cells #[.slice none 0 0] 24)).alloc (.cells #[.slice none 0 0] 24)).heap[w.heap.size + 1]? = some (.cells #[.slice none 0 0] 24 (0, 0))) := by
    have := box_new (w.alloc (.cells #[.slice ao ns.length cap] 24)) (.slice none 0 0) 24
    rw [World.size_alloc] at this
    exact (Mv.alloc (fun _ => False) _ _).heap this id
  have HTB : Hid ((((w.alloc (.cells #[.slice ao ns.length cap] 24)).alloc (.cells #[.slice none 0 0] 24)).alloc (.cells #[.slice none 0 0] 24)).heap[w.heap.size + 2]? = some (.cells #[.slice none 0 0] 24 (0, 0))) := by
    have := box_new ((w.alloc (.cells #[.slice ao ns.length cap] 24)).alloc (.cells #[.slice none 0 0] 24)) (.slice none 0 0) 24
    rwa [World.size_alloc, World.size_alloc] at this
  have HSZ : Hid ((((w.alloc (.cells #[.slice ao ns.length cap] 24)).alloc (.cells #[.slice none 0 0] 24)).alloc (.cells #[.slice none 0 0] 24)).heap.size = w.heap.size + 3) := by show _ = _; rw [World.size_alloc, World.size_alloc, World.size_alloc]
  have HNS := hid h
  clear h hf
  go_enter Try.func4, Try.ntmps4
  go_upto_region 2 with fail
  generalize ((w.alloc (.cells #[.slice ao ns.length cap] 24)).alloc (.cells #[.slice none 0 0] 24)).alloc (.cells #[.slice none 0 0] 24) = w3 at *
  obtain ⟨H, HH⟩ : ∃ H, Hid (w3.heap.size = H) := ⟨_, rfl⟩
  have HN3 : Hid (NodesAt w3 H ao ns) := by
    have := HNS.out.below HN1.out.nu_below HN1.out.size
    rwa [HH.out] at this
  have HOO0 : Hid (OO H w3 w3 (w.heap.size + 2) none 0 [] []) := ⟨HTB.out, ⟨rfl, .inl ⟨rfl, rfl⟩⟩, rfl, fun _ h => absurd h (by simp), Mv.refl _ _, HH.out⟩
  clear HTB
  go_wp2
  go_loopw [4] (fun iv wr => ∃ (no : Option Addr) (nc : Nat) (nodes : List Node) (nxs : List NX), nodes.length ≤ ns.length ∧ iv = .int .i64 (nodes.length : Int) ∧ Hid (nodes = ns.take nodes.length) ∧ Hid (OO H w3 wr (w.heap.size + 2) no nc nodes nxs)) (fun iv _ => ns.length - (intOf iv).toNat)
  case atStart => exact ⟨none, 0, [], [], Nat.zero_le _, rfl, rfl, HOO0⟩
  case round =>
    obtain ⟨no, nc, nodes, nxs, hnl, rfl, HEQ, HOO⟩ := hrel
    clear HOO0
    have d1 := cell_mv HOO.out.mv HNB.out (by omega)
    rcases Nat.lt_or_ge nodes.length ns.length with hlt | hge
    case inr =>
      have hnn : nodes = ns := by have := HEQ.out; rwa [show nodes.length = ns.length by omega, List.take_length] at this
      subst hnn
      have t0 := cell_blk HOO.out.tbx 0
      have HR2 := hid (HOO.out.mv.heap HRB.out (by omega))
      have r0 := cell_blk HR2.out 0
      have z0 := free_blk HR2.out 0
      simp only [List.size_toArray, List.length_cons, List.length_nil, Nat.reduceAdd, Nat.lt_add_one, Nat.reduceLT, getElem?_pos, List.getElem_toArray, List.getElem_cons_zero, List.getElem_cons_succ, Nat.zero_lt_succ] at t0 r0
      have hge' : ¬ (nodes.length : Int) < (nodes.length : Int) := by omega
      clear hge hnl
      go_wp2
      have hset := setCell_blk (i := 0) (u := .slice no nodes.length nc) HR2.out
      simp only [List.setIfInBounds_toArray, List.set_cons_zero] at hset
      obtain ⟨e1, e2⟩ := HOO.out.done (u := .slice no nodes.length nc) HN1.out HR2.out (by omega) (by omega)
      refine bodyPost_ret (results_cell_row rfl _ _ (w.heap.size + 1) 24 _ (0, 0) _ rfl hset Try.underlying24 rfl (by kernel_rfl)) rfl ?_
      exact ⟨e1, no, nc, rfl, nxs, e2⟩
    have hlt' : (nodes.length : Int) < (ns.length : Int) := by omega
    have HLT := hid hlt
    have HNW : Hid (Nu w wr) := HN1.out.trans HOO.out.mv (fun x hx => .inr (by have : x = w.heap.size + 2 := hx; omega))
    have HHW : Hid (H ≤ wr.heap.size) := by have := HOO.out.mv.size; have := HOO.out.hs; show _ ≤ _; omega
    rcases HNS.out.row with h0 | ⟨b, off, rfl, hbB, hit⟩
    · omega
    obtain ⟨x, HE, hx⟩ : ∃ x, Hid (ns[nodes.length]? = some x) ∧ NodeAt w w.heap.size b (off + nodes.length * 5) x := ⟨_, List.getElem?_eq_getElem hlt, hit _ hlt⟩
    have hxr := hx.below HNW.out.nu_below (Nat.le_refl _) hbB
    obtain ⟨_, c0, xo, xc, rfl, hxa⟩ := hx.c0
    have c0 := (HNW.out.nu_below.cell (p := ⟨b, off + nodes.length * 5, none⟩) hbB).trans c0
    have c1 := hxr.c1
    have c2 := hxr.c2
    have c3 := hxr.c3
    have c4 := hxr.c4
    have hal : x.arcs.length * 80 ≤ 140737488351232 := HFIT.out.a x (List.mem_of_getElem? HE.out)
    have hnl2 : nodes.length * 40 + 40 ≤ 140737488351232 := by have := HFIT.out.n; omega
    have HAL := hid hal
    have HNL2 := hid hnl2
    obtain ⟨axs0, hax0, hax1, hxo⟩ := hxa.axs
    have HAX : Hid (axs0.map AX.a = x.arcs ∧ axs0.length = x.arcs.length ∧ ArcsO w w.heap.size xo axs0) := ⟨hax0, hax1, hxo⟩
    clear hit hx hxr hxa hax0 hax1 hxo hlt hnl hnl2 hal hlim
    go_upto_region 6 with fail
    have HN4 : Hid (Nu wr (wr.alloc (.cells #[.slice xo x.arcs.length xc, .int .u64 x.props, .bool x.en, .bool x.pr, .bool x.ac] 48))) := Mv.alloc _ _ _
    have HB4 : Hid ((wr.alloc (.cells #[.slice xo x.arcs.length xc, .int .u64 x.props, .bool x.en, .bool x.pr, .bool x.ac] 48)).heap[wr.heap.size]? = some (.cells #[.slice xo x.arcs.length xc, .int .u64 x.props, .bool x.en, .bool x.pr, .bool x.ac] 48 (0, 0))) := heap_alloc_new wr _
    have HZ4 : Hid ((wr.alloc (.cells #[.slice xo x.arcs.length xc, .int .u64 x.props, .bool x.en, .bool x.pr, .bool x.ac] 48)).heap.size = wr.heap.size + 1) := World.size_alloc _ _
    generalize wr.alloc (.cells #[.slice xo x.arcs.length xc, .int .u64 x.props, .bool x.en, .bool x.pr, .bool x.ac] 48) = wx at *
    obtain ⟨xb, HXB⟩ : ∃ xb, Hid (wr.heap.size = xb) := ⟨_, rfl⟩
    rw [HXB.out] at HB4 HZ4 ⊢
    clear c0 c1 c2 c3 c4 d1
    obtain ⟨p0, p1, p2, p3, p4⟩ := cells5 HB4.out
    obtain ⟨i0, hi, hz0, hz1, hz2⟩ := info_parts c_infoArc
    obtain ⟨cur, hcur⟩ : ∃ cur : List Value, cur = (madeCells (Value.agg #[.int .i64 0, .int .i64 0, .int .i64 0, .slice none 0 0, .slice none 0 0, .int .u64 0]).cells ((x.arcs.length + 1) * 6)).toList := ⟨_, rfl⟩
    have HCL : Hid (cur.length = (x.arcs.length + 1) * 6) := by show _ = _; rw [hcur, Array.length_toList, size_madeCells]
    have hmk : ∀ wy : World, (Instr.makeSlice 46 (.int .i64 ((x.arcs.length : Int) + 1)) (.int .i64 ((x.arcs.length : Int) + 1))).run Try.prog wy = .ok (.slice (some ⟨wy.heap.size, 0, none⟩) (x.arcs.length + 1) (x.arcs.length + 1)) (wy.alloc (.cells cur.toArray 51)) := fun wy => by
      have hal := HAL.out
      have := run_make (P := Try.prog) wy 46 51 i0 (.agg #[.int .i64 0, .int .i64 0, .int .i64 0, .slice none 0 0, .slice none 0 0, .int .u64 0]) Try.underlying46 hi hz0 .i64 .i64 ((x.arcs.length : Int) + 1) ((x.arcs.length : Int) + 1) (by omega) (Int.le_refl _) (by rw [hz2]; omega) (by omega)
      rw [this, hz1, hcur, show ((x.arcs.length : Int) + 1).toNat = x.arcs.length + 1 by omega]
    have HN5 := hid (Mv.alloc (fun _ => False) wx (.cells cur.toArray 51))
    have HB5 : Hid ((wx.alloc (.cells cur.toArray 51)).heap[wx.heap.size]? = some (.cells cur.toArray 51 (0, 0))) := heap_alloc_new wx _
    have hxl : (x.arcs.length : Int) ≤ 1759218604390 := by have := HAL.out; omega
    clear hcur
    go_upto_region 7 with fail
    clear hmk
    generalize hw1 : wx.alloc (.cells cur.toArray 51) = wy at *
    clear hw1
    rw [HZ4.out] at HB5 ⊢
    replace p0 := cell_mv HN5.out p0 id
    clear p1 p2 p3 p4
    obtain ⟨C, HC⟩ : ∃ C : List Value, Hid (C = axflat axs0) := ⟨_, rfl⟩
    have hcl : C.length = x.arcs.length * 6 := by rw [HC.out, axflat_length, HAX.out.2.1]
    have hsrc : 0 < C.length → ∃ ad, xo = some ad ∧ ∀ j v, C[j]? = some v → wy.cell? (ad.add j) = some v := fun hp => by
      have hox := HAX.out.2.2.below (mv0 HNW.out (mv0 HN4.out HN5.out)).nu_below (Nat.le_refl _)
      rcases hox.row with h0 | ⟨ab, aoff, rfl, hab, hat⟩
      · have := HAX.out.2.1; omega
      · refine ⟨_, rfl, fun j v hj => ?_⟩
        rw [HC.out] at hj
        rw [Addr.add_lit]
        exact axflat_cell hat j v hj
    obtain ⟨w5, hcp, hG5, hM5⟩ := run_copy_any (P := Try.prog) wy 46 46 3 51 6 (xb + 1) (x.arcs.length + 1) (x.arcs.length + 1) xo x.arcs.length xc x.arcs.length cur 51 C Try.underlying46 g_sizeArc (by decide) HB5.out (Nat.min_eq_left (by omega)) hcl hsrc (by have := HCL.out; omega) (fun v hv => axflat_one axs0 v (by rwa [HC.out] at hv))
    obtain ⟨Z6, HZ6⟩ : ∃ Z6, Hid (Z6 = cur.drop C.length) := ⟨_, rfl⟩
    have HZL : Hid (Z6.length = 6) := by show _ = _; rw [HZ6.out, List.length_drop, HCL.out, hcl]; omega
    have HIN0 : Hid (InO wr w5 H (xb + 1) xb x.arcs Z6 #[.slice xo x.arcs.length xc, .int .u64 x.props, .bool x.en, .bool x.pr, .bool x.ac] axs0 0) := by
      have hsz := HXB.out
      refine ⟨HAX.out.1, ?_, hM5.heap (HN5.out.heap HB4.out id) (by omega), fun j _ h => absurd h (by omega), (mv0 HN4.out HN5.out).trans hM5 (fun q hq => .inr (by have : q = xb + 1 := hq; omega)), by omega, by omega⟩
      rw [hG5, HZ6.out, ← HC.out]
      simp [splice]
    have HGB := hid hcp
    clear hsrc hG5 hM5 hcl
    go_upto_region 8 with fail
    clear hcp HGB p0 HB5 HN5 HB4 HN4 HZ4 HZ6 HCL HC
    go_wp2
    go_loopw [7] (fun kv wk => ∃ (k : Nat) (L : List AX), k ≤ x.arcs.length ∧ kv = .int .i64 (k : Int) ∧ Hid (InO wr wk H (xb + 1) xb x.arcs Z6 #[.slice xo x.arcs.length xc, .int .u64 x.props, .bool x.en, .bool x.pr, .bool x.ac] L k)) (fun kv _ => x.arcs.length - (intOf kv).toNat)
    case atStart => exact ⟨0, axs0, Nat.zero_le _, rfl, HIN0⟩
    case round =>
      rename World => wk
      obtain ⟨k, L, hk, rfl, HIN⟩ := hrel
      clear HIN0
      obtain ⟨p0, p1, p2, p3, p4⟩ := cells5 HIN.out.box
      rcases Nat.lt_or_ge k x.arcs.length with hklt | hkge
      case inl =>
        have hklt' : (k : Int) < (x.arcs.length : Int) := by omega
        have hklt2 : (k : Int) < ((x.arcs.length : Int) + 1) := by omega
        have HKL := hid hklt
        have HNK : Hid (Nu w wk) := mv0 HNW.out HIN.out.nu
        rcases HAX.out.2.2.row with h0 | ⟨ab, aoff, rfl, hab, hat⟩
        · have := HAX.out.2.1; omega
        have hka : k < axs0.length := by have := HAX.out.2.1; omega
        obtain ⟨y, HY, hy⟩ : ∃ y, Hid (axs0[k]'hka = y) ∧ AXAt w ab (aoff + k * 6) y := ⟨_, rfl, hat k hka⟩
        have HYA : Hid (x.arcs[k]? = some y.a) := by
          show _ = _
          rw [← HAX.out.1, List.getElem?_map, List.getElem?_eq_getElem hka, ← HY.out]; rfl
        have HYR : Hid (IntsAt w w.heap.size y.ra y.a.reads ∧ IntsAt w w.heap.size y.wa y.a.writes) := by
          have := HAX.out.2.2.rd _ (List.getElem_mem hka)
          rwa [HY.out] at this
        have y3 := cell_mv HNK.out hy.c3 id
        have HY4 := hid hy.c4
        clear hy hat HY hka
        go_upto_region 12 with (go_at_call 14; refine (list_any _ w.heap.size _ _ _ (HYR.out.1.below HNK.out.nu_below (Nat.le_refl _)) HNK.out.size).mono ?_; rintro e w6 ⟨hn6, r6, rfl, ho6⟩; have HI6 := hid (HIN.out.nuA hn6); obtain ⟨u6, q6⟩ : ∃ u6, w6.cell? ⟨xb + 1, k * 6 + 3, none⟩ = some u6 := ⟨_, by rw [cell_blk HI6.out.blk]; exact Array.getElem?_eq_getElem (by simp [axflat_length, HI6.out.len]; have := HKL.out; omega)⟩; have z6 := free_blk HI6.out.blk (k * 6 + 3); have HO6 := hid ho6; have HN6 := hid hn6; clear ho6 hn6)
        have HKH : Hid (H ≤ wk.heap.size) := Nat.le_trans HHW.out HIN.out.nu.size
        obtain ⟨L1, hI7, hk1, hr7⟩ := HIN.out.reads HN6.out HYA.out (HO6.out.mv (Mv.refl (fun _ => False) w6) (fun _ _ _ => id) HKH.out)
        have HI7 := hid hI7
        have HR7 := hid hr7
        have HN7 : Hid (Nu w (w6.setCell ⟨xb + 1, k * 6 + 3, none⟩ (.slice (some ⟨r6, 0, none⟩) y.a.reads.length (y.a.reads.length + 1)))) := mv0 HNW.out hI7.nu
        have HK7 : Hid (H ≤ (w6.setCell ⟨xb + 1, k * 6 + 3, none⟩ (.slice (some ⟨r6, 0, none⟩) y.a.reads.length (y.a.reads.length + 1))).heap.size) := Nat.le_trans HHW.out hI7.nu.size
        have HK1 := hid hk1
        clear hI7 hr7 HI6 q6 z6 HO6 HN6 y3 p0 p1 p2 p3 p4 HIN
        generalize w6.setCell ⟨xb + 1, k * 6 + 3, none⟩ (.slice (some ⟨r6, 0, none⟩) y.a.reads.length (y.a.reads.length + 1)) = w7 at *
        obtain ⟨p0, p1, p2, p3, p4⟩ := cells5 HI7.out.box
        have y4 := cell_mv HN7.out HY4.out id
        clear p1 p2 p3 p4
        go_upto_region 10 with (go_at_call 14; refine (list_any _ w.heap.size _ _ _ (HYR.out.2.below HN7.out.nu_below (Nat.le_refl _)) HN7.out.size).mono ?_; rintro e w8 ⟨hn8, r8, rfl, ho8⟩; have HI8 := hid (HI7.out.nuA hn8); obtain ⟨u8, q8⟩ : ∃ u8, w8.cell? ⟨xb + 1, k * 6 + 4, none⟩ = some u8 := ⟨_, by rw [cell_blk HI8.out.blk]; exact Array.getElem?_eq_getElem (by simp [axflat_length, HI8.out.len]; have := HKL.out; omega)⟩; have z8 := free_blk HI8.out.blk (k * 6 + 4); have HO8 := hid ho8; have HN8 := hid hn8; clear ho8 hn8)
        obtain ⟨L2, hI9⟩ := HI7.out.writes HN8.out HYA.out hk1 HR7.out (HO8.out.mv (Mv.refl (fun _ => False) w8) (fun _ _ _ => id) HK7.out)
        have HI9 := hid hI9
        clear hI9 HI8 q8 z8 HO8 HN8 y4 p0 HI7 HR7 HN7 HK7 hk1 HK1
        generalize w8.setCell ⟨xb + 1, k * 6 + 4, none⟩ (.slice (some ⟨r8, 0, none⟩) y.a.writes.length (y.a.writes.length + 1)) = w9 at *
        go_wp2
        go_roundw
        case rel => exact ⟨k + 1, L2, HKL.out, by go_num, HI9⟩
        case measure => have := HKL.out; simp [intOf]; omega
      obtain rfl : k = x.arcs.length := by omega
      have hkk : ¬ (x.arcs.length : Int) < (x.arcs.length : Int) := by omega
      have hk2 : (x.arcs.length : Int) < ((x.arcs.length : Int) + 1) := by omega
      obtain ⟨um, qm⟩ : ∃ um, wk.cell? ⟨xb + 1, x.arcs.length * 6, none⟩ = some um := ⟨_, by rw [cell_blk HIN.out.blk]; exact Array.getElem?_eq_getElem (by simp [axflat_length, HIN.out.len, HZL.out])⟩
      have zm := free_blk HIN.out.blk (x.arcs.length * 6)
      clear p1 p2 p3 p4 hk hkge
      go_upto_region 14 with fail
      have HIM := hid (HIN.out.mark (.int .i64 77))
      clear qm zm p0 HIN hkk hk2
      generalize wk.setCell ⟨xb + 1, x.arcs.length * 6, none⟩ (.int .i64 77) = wm at *
      obtain ⟨p0, p1, p2, p3, p4⟩ := cells5 HIM.out.box
      have z0 := free_blk HIM.out.box 0
      clear p1 p2 p3 p4
      go_upto_region 15 with fail
      have HIB := hid (HIM.out.boxed (.slice (some ⟨xb + 1, 0, none⟩) x.arcs.length (x.arcs.length + 1)))
      clear p0 z0 HIM
      generalize wm.setCell ⟨xb, 0, none⟩ (.slice (some ⟨xb + 1, 0, none⟩) x.arcs.length (x.arcs.length + 1)) = wb at *
      have HNX : Hid (NXW wb H ⟨x, L, some ⟨xb + 1, 0, none⟩, x.arcs.length + 1⟩) := HIB.out.node (by have := HHW.out; have := HXB.out; omega) (by omega) _
      have hLL : L.length = x.arcs.length := HIB.out.len
      have HOB := hid (HOO.out.nu HIB.out.nu)
      have HBX : Hid (wb.heap[xb]? = some (.cells #[.slice (some ⟨xb + 1, 0, none⟩) x.arcs.length (x.arcs.length + 1), .int .u64 x.props, .bool x.en, .bool x.pr, .bool x.ac] 48 (0, 0))) := by
        have := HIB.out.box
        show wb.heap[xb]? = _
        simpa only [List.setIfInBounds_toArray, List.set_cons_zero] using this
      obtain ⟨q0, q1, q2, q3, q4⟩ := cells5 HBX.out
      have t0 := cell_blk HOB.out.tbx 0
      simp only [List.size_toArray, List.length_cons, List.length_nil, Nat.reduceAdd, Nat.lt_add_one, Nat.reduceLT, getElem?_pos, List.getElem_toArray, List.getElem_cons_zero, List.getElem_cons_succ, Nat.zero_lt_succ] at t0
      obtain ⟨i0, hi0, hz0, hz1, hz2⟩ := info_parts c_infoNode
      have HNA : Hid (Nu wb (wb.alloc (.cells #[.slice (some ⟨xb + 1, 0, none⟩) x.arcs.length (x.arcs.length + 1), .int .u64 x.props, .bool x.en, .bool x.pr, .bool x.ac] 48))) := Mv.alloc _ _ _
      have HR5 := hid (row_mv HNA.out HOB.out.row (fun _ _ => id))
      have HNBL : Hid (∀ q v, ([.slice (some ⟨xb + 1, 0, none⟩) x.arcs.length (x.arcs.length + 1), .int .u64 x.props, .bool x.en, .bool x.pr, .bool x.ac] : List Value)[q]? = some v → (wb.alloc (.cells #[.slice (some ⟨xb + 1, 0, none⟩) x.arcs.length (x.arcs.length + 1), .int .u64 x.props, .bool x.en, .bool x.pr, .bool x.ac] 48)).cell? ((⟨wb.heap.size, 0, none⟩ : Addr).add q) = some v) := fun q v hj => by
        rw [add_block, cell_blk (heap_alloc_new wb _)]; simpa using hj
      have HBS : Hid (H ≤ wb.heap.size) := Nat.le_trans HHW.out HIB.out.nu.size
      have hnl2 := HNL2.out
      clear HIB HBX
      go_wp2_with (at_builtin; refine wpList_append_lies _ rfl _ _ 22 rfl H 48 i0 (.agg #[.slice none 0 0, .int .u64 0, .bool false, .bool false, .bool false]) 5 40 Try.underlying22 hi0 hz0 hz1 hz2 rfl (by decide) _ nodes.length (nxflat nxs) rfl HR5.out ⟨wb.heap.size, 0, none⟩ 1 1 [.slice (some ⟨xb + 1, 0, none⟩) x.arcs.length (x.arcs.length + 1), .int .u64 x.props, .bool x.en, .bool x.pr, .bool x.ac] rfl rfl HNBL.out (by simp [Value.oneCell']) (by decide) (by unfold maxLen; omega) (by omega) (by have := HBS.out; simp; omega) _ rfl ?_)
      intro g2 nc2 w6 ho6 hg6 hgg _
      have hb6 := (Mv.grown hg6).heap (HNA.out.heap HOB.out.tbx id) (fun e => by
        obtain ⟨_, _, cs', hc⟩ := row_blk HOB.out.row e
        rw [HOB.out.tbx] at hc
        simp at hc)
      have s0 := cell_blk hb6 0
      have s1 := free_blk hb6 0
      simp only [List.size_toArray, List.length_cons, List.length_nil, Nat.reduceAdd, Nat.lt_add_one, Nat.reduceLT, getElem?_pos, List.getElem_toArray, List.getElem_cons_zero, List.getElem_cons_succ, Nat.zero_lt_succ] at s0
      have HEND := hid (HOB.out.node HNX.out HNA.out hg6 (by
        show World.ownsRow _ _ _ _ _ _ (nxflat nxs ++ [.slice (some ⟨xb + 1, 0, none⟩) L.length (x.arcs.length + 1), .int .u64 x.props, .bool x.en, .bool x.pr, .bool x.ac])
        rw [hLL]
        exact ho6))
      have hlen : (nodes ++ [x]).length = nodes.length + 1 := by simp
      clear hb6 ho6 hg6 hgg q0 q1 q2 q3 q4 t0 hLL
      go_wp2
      go_roundw
      case rel => exact ⟨some ⟨g2, 0, none⟩, nc2, nodes ++ [x], _, by rw [hlen]; exact HLT.out, by rw [hlen]; go_num, take_snoc HEQ.out HE.out, HEND.out⟩
      case measure => have := HLT.out; simp [intOf]; omega

end Go.Proofs.Ytkjalclplfdpmaa
