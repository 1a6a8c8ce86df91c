/-
  Graphs that are being made: rows of arcs and of nodes that are one's own, what is settled being told by a set of blocks. Laws on worlds.
-/
import Derived.Test.YtlgljpbbooeanaaNAll
namespace Go.Proofs.Ytlgljpbbooeanaa
open Go.RowKit

/-- Numbers that can be read, in blocks of Z. -/
structure IntsZ (W : World) (Z : Nat → Prop) (ao : Option Addr) (xs : List Int) : Prop where
  lim : (xs.length : Int) ≤ 17592186044416
  row : xs.length = 0 ∨ ∃ b off, ao = some ⟨b, off, none⟩ ∧ Z b ∧ ∀ i (h : i < xs.length), W.cell? ⟨b, off + i, none⟩ = some (.int .i64 xs[i])
theorem IntsZ.mv {S Z Z' : Nat → Prop} {W W' : World} {ao : Option Addr} {xs : List Int} (h : IntsZ W Z ao xs) (hm : Mv S W W') (hS : ∀ b, Z b → ¬ S b) (hZ : ∀ b, Z b → Z' b) : IntsZ W' Z' ao xs :=
  ⟨h.lim, h.row.imp id fun ⟨b, off, ha, hz, hi⟩ => ⟨b, off, ha, hZ b hz, fun i h => cell_mv hm (hi i h) (hS b hz)⟩⟩
theorem IntsZ.at {Z : Nat → Prop} {W : World} {ao : Option Addr} {xs : List Int} (h : IntsZ W Z ao xs) {B : Nat} (hZ : ∀ b, Z b → b < B) : IntsAt W B ao xs :=
  ⟨h.lim, h.row.imp id fun ⟨b, off, ha, hz, hi⟩ => ⟨b, off, ha, hZ b hz, hi⟩⟩
theorem IntsAt.z {Z : Nat → Prop} {W : World} {B : Nat} {ao : Option Addr} {xs : List Int} (h : IntsAt W B ao xs) (hZ : ∀ b, b < B → Z b) : IntsZ W Z ao xs :=
  ⟨h.lim, h.row.imp id fun ⟨b, off, ha, hz, hi⟩ => ⟨b, off, ha, hZ b hz, hi⟩⟩
theorem OwnI.z {Z : Nat → Prop} {W : World} {H : Nat} {ao : Option Addr} {cap : Nat} {xs : List Int} (h : OwnI W H ao cap xs) (hZ : ∀ a, 0 < cap → ao = some a → Z a.block) : IntsZ W Z ao xs := by
  have h1 := h.len
  refine ⟨h.lm, ?_⟩
  rcases Nat.eq_zero_or_pos cap with h0 | hp
  · exact .inl (by omega)
  · rcases h.row with h0 | ⟨g, cs, hg, hh, hc, hs, r⟩
    · exact .inl (by omega)
    · refine .inr ⟨g, 0, hg, hZ _ hp hg, fun i hi => ?_⟩
      rw [cell_blk hc, Nat.zero_add]
      exact r i hi

/-- An arc as it lies: its data, and where its numbers lie. -/
structure AX where
  a : Arc
  ra : Option Addr
  rc : Nat
  wa : Option Addr
  wc : Nat
def AX.cells (x : AX) : List Value := [.int .i64 x.a.proc, .int .i64 x.a.to, .int .i64 x.a.bad, .slice x.ra x.a.reads.length x.rc, .slice x.wa x.a.writes.length x.wc, .int .u64 x.a.turns]
def axflat : List AX → List Value
  | [] => []
  | s :: r => s.cells ++ axflat r
theorem axflat_append (a b : List AX) : axflat (a ++ b) = axflat a ++ axflat b := by
  induction a with
  | nil => rfl
  | cons s r ih => rw [List.cons_append, axflat, axflat, ih, List.append_assoc]
theorem axflat_snoc (a : List AX) (x : AX) : axflat (a ++ [x]) = axflat a ++ x.cells := by rw [axflat_append]; simp [axflat]
theorem axflat_get : ∀ (l : List AX) (i : Nat) (h : i < l.length) (k : Nat), k < 6 → (axflat l)[i * 6 + k]? = (l[i].cells)[k]?
  | s :: r, 0, h, k, hk => by
    rw [axflat, Nat.zero_mul, Nat.zero_add, List.getElem?_append_left (by simpa [AX.cells] using hk)]
    rfl
  | s :: r, i + 1, h, k, hk => by
    have h' : i < r.length := by simpa using h
    rw [axflat, List.getElem?_append_right (by simp [AX.cells]; omega), show (i + 1) * 6 + k - s.cells.length = i * 6 + k by simp [AX.cells]; omega, axflat_get r i h' k hk]
    rfl

/-- An arc's numbers are settled. -/
structure AXZ (W : World) (Z : Nat → Prop) (x : AX) : Prop where
  r : IntsZ W Z x.ra x.a.reads
  w : IntsZ W Z x.wa x.a.writes
theorem AXZ.mv {S Z Z' : Nat → Prop} {W W' : World} {x : AX} (h : AXZ W Z x) (hm : Mv S W W') (hS : ∀ b, Z b → ¬ S b) (hZ : ∀ b, Z b → Z' b) : AXZ W' Z' x := ⟨h.r.mv hm hS hZ, h.w.mv hm hS hZ⟩

/-- An arc in six cells. -/
structure AXAt (W : World) (b o : Nat) (x : AX) : Prop where
  c0 : W.cell? ⟨b, o, none⟩ = some (.int .i64 x.a.proc)
  c1 : W.cell? ⟨b, o + 1, none⟩ = some (.int .i64 x.a.to)
  c2 : W.cell? ⟨b, o + 2, none⟩ = some (.int .i64 x.a.bad)
  c3 : W.cell? ⟨b, o + 3, none⟩ = some (.slice x.ra x.a.reads.length x.rc)
  c4 : W.cell? ⟨b, o + 4, none⟩ = some (.slice x.wa x.a.writes.length x.wc)
  c5 : W.cell? ⟨b, o + 5, none⟩ = some (.int .u64 x.a.turns)
theorem AXAt.mv {S : Nat → Prop} {W W' : World} {b o : Nat} {x : AX} (h : AXAt W b o x) (hm : Mv S W W') (hS : ¬ S b) : AXAt W' b o x :=
  ⟨cell_mv hm h.c0 hS, cell_mv hm h.c1 hS, cell_mv hm h.c2 hS, cell_mv hm h.c3 hS, cell_mv hm h.c4 hS, cell_mv hm h.c5 hS⟩
theorem axrow_at {W : World} {B g : Nat} {v : Value} {l : List AX} (h : W.ownsRow B 55 6 v l.length (axflat l)) (hv : v.ownBlock = some g) (i : Nat) (hi : i < l.length) : AXAt W g (i * 6) l[i] := by
  have hc : ∀ k v', k < 6 → (l[i].cells)[k]? = some v' → W.cell? ⟨g, i * 6 + k, none⟩ = some v' := fun k v' hk hv' => by
    have := h.cells hv (i * 6 + k) v' (by rw [axflat_get l i hi k hk]; exact hv')
    rwa [add_block] at this
  exact ⟨hc 0 _ (by omega) rfl, hc 1 _ (by omega) rfl, hc 2 _ (by omega) rfl, hc 3 _ (by omega) rfl, hc 4 _ (by omega) rfl, hc 5 _ (by omega) rfl⟩

/-- A node's arcs, settled. -/
structure ArcsZ (W : World) (Z : Nat → Prop) (ao : Option Addr) (l : List AX) : Prop where
  lim : (l.length : Int) ≤ 17592186044416
  row : l.length = 0 ∨ ∃ g off, ao = some ⟨g, off, none⟩ ∧ Z g ∧ ∀ i (h : i < l.length), AXAt W g (off + i * 6) l[i]
  ax : ∀ x ∈ l, AXZ W Z x
theorem ArcsZ.mv {S Z Z' : Nat → Prop} {W W' : World} {ao : Option Addr} {l : List AX} (h : ArcsZ W Z ao l) (hm : Mv S W W') (hS : ∀ b, Z b → ¬ S b) (hZ : ∀ b, Z b → Z' b) : ArcsZ W' Z' ao l :=
  ⟨h.lim, h.row.imp id fun ⟨g, off, ha, hz, hi⟩ => ⟨g, off, ha, hZ g hz, fun i hl => (hi i hl).mv hm (hS g hz)⟩, fun x hx => (h.ax x hx).mv hm hS hZ⟩
theorem ArcsZ.at {Z : Nat → Prop} {W : World} {ao : Option Addr} {l : List AX} (h : ArcsZ W Z ao l) {B : Nat} (hZ : ∀ b, Z b → b < B) : ArcsAt W B ao (l.map AX.a) := by
  refine ⟨by simpa using h.lim, h.row.imp (by simp) fun ⟨g, off, ha, hz, hi⟩ => ⟨g, off, ha, hZ g hz, fun i hl => ?_⟩⟩
  have hl' : i < l.length := by simpa using hl
  have h1 := hi i hl'
  have h2 := h.ax l[i] (List.getElem_mem hl')
  rw [List.getElem_map]
  exact ⟨h1.c0, h1.c1, h1.c2, ⟨_, h1.c3, _, _, rfl, h2.r.at hZ⟩, ⟨_, h1.c4, _, _, rfl, h2.w.at hZ⟩, h1.c5⟩
/-- A row that is one's own, once nobody writes into it any more. -/
theorem ArcsZ.of_row {Z : Nat → Prop} {W : World} {B : Nat} {vo : Option Addr} {vc : Nat} {l : List AX} (h : W.ownsRow B 55 6 (.slice vo l.length vc) l.length (axflat l)) (hl : (l.length : Int) ≤ 17592186044416) (hZ : ∀ g, (Value.slice vo l.length vc).ownBlock = some g → Z g) (hx : ∀ x ∈ l, AXZ W Z x) : ArcsZ W Z vo l := by
  refine ⟨hl, ?_, hx⟩
  rcases h.2 with ⟨_, hn⟩ | ⟨g, cap, cur, hv, _⟩
  · exact .inl hn
  · have hvo : vo = some ⟨g, 0, none⟩ := by simp only [Value.slice.injEq] at hv; exact hv.1
    subst hvo
    exact .inr ⟨g, 0, rfl, hZ g rfl, fun i hi => by have := axrow_at h rfl i hi; rwa [Nat.zero_add]⟩

/-- A node as it lies. -/
structure NX where
  nd : Node
  xs : List AX
  vo : Option Addr
  vc : Nat
def NX.cells (x : NX) : List Value := [.slice x.vo x.xs.length x.vc, .int .u64 x.nd.props, .bool x.nd.en, .bool x.nd.pr, .bool x.nd.ac]
def nxflat : List NX → List Value
  | [] => []
  | s :: r => s.cells ++ nxflat r
theorem nxflat_append (a b : List NX) : nxflat (a ++ b) = nxflat a ++ nxflat b := by
  induction a with
  | nil => rfl
  | cons s r ih => rw [List.cons_append, nxflat, nxflat, ih, List.append_assoc]
theorem nxflat_snoc (a : List NX) (x : NX) : nxflat (a ++ [x]) = nxflat a ++ x.cells := by rw [nxflat_append]; simp [nxflat]
theorem nxflat_get : ∀ (l : List NX) (i : Nat) (h : i < l.length) (k : Nat), k < 5 → (nxflat l)[i * 5 + k]? = (l[i].cells)[k]?
  | s :: r, 0, h, k, hk => by
    rw [nxflat, Nat.zero_mul, Nat.zero_add, List.getElem?_append_left (by simpa [NX.cells] using hk)]
    rfl
  | s :: r, i + 1, h, k, hk => by
    have h' : i < r.length := by simpa using h
    rw [nxflat, List.getElem?_append_right (by simp [NX.cells]; omega), show (i + 1) * 5 + k - s.cells.length = i * 5 + k by simp [NX.cells]; omega, nxflat_get r i h' k hk]
    rfl
/-- A node is settled. -/
structure NXZ (W : World) (Z : Nat → Prop) (x : NX) : Prop where
  eq : x.xs.map AX.a = x.nd.arcs
  ar : ArcsZ W Z x.vo x.xs
theorem NXZ.mv {S Z Z' : Nat → Prop} {W W' : World} {x : NX} (h : NXZ W Z x) (hm : Mv S W W') (hS : ∀ b, Z b → ¬ S b) (hZ : ∀ b, Z b → Z' b) : NXZ W' Z' x := ⟨h.eq, h.ar.mv hm hS hZ⟩

/-- Nodes in a row that is one's own can be read. -/
theorem nodes_of_row {Z : Nat → Prop} {W : World} {B : Nat} {vo : Option Addr} {vc : Nat} {l : List NX} (h : W.ownsRow B 53 5 (.slice vo l.length vc) l.length (nxflat l)) (hl : (l.length : Int) ≤ 17592186044416) (hx : ∀ x ∈ l, NXZ W Z x) (hZ : ∀ b, Z b → b < W.heap.size) : NodesAt W W.heap.size vo (l.map NX.nd) := by
  refine ⟨by simpa using hl, ?_⟩
  rcases h.2 with ⟨_, hn⟩ | ⟨g, cap, cur, hv, _, hg, _⟩
  · exact .inl (by simpa using hn)
  · have hvo : vo = some ⟨g, 0, none⟩ := by simp only [Value.slice.injEq] at hv; exact hv.1
    subst hvo
    refine .inr ⟨g, 0, rfl, lt_of_block hg, fun i hi => ?_⟩
    have hi' : i < l.length := by simpa using hi
    have hc : ∀ k v', k < 5 → (l[i].cells)[k]? = some v' → W.cell? ⟨g, i * 5 + k, none⟩ = some v' := fun k v' hk hv' => by
      have := h.cells (g := g) rfl (i * 5 + k) v' (by rw [nxflat_get l i hi' k hk]; exact hv')
      rwa [add_block] at this
    have hz := hx l[i] (List.getElem_mem hi')
    have h0 := hz.ar.at hZ
    rw [hz.eq] at h0
    have hlen : l[i].xs.length = l[i].nd.arcs.length := by rw [← hz.eq, List.length_map]
    rw [List.getElem_map, Nat.zero_add]
    have c0 := hc 0 _ (by omega) rfl
    rw [hlen] at c0
    exact ⟨⟨_, c0, _, _, rfl, h0⟩, hc 1 _ (by omega) rfl, hc 2 _ (by omega) rfl, hc 3 _ (by omega) rfl, hc 4 _ (by omega) rfl⟩

/-- Arcs that can be read, as they lie. -/
theorem ArcsAt.lie {W : World} {B : Nat} {ao : Option Addr} {l : List Arc} (h : ArcsAt W B ao l) (i : Nat) (hi : i < l.length) : ∃ b off x, ao = some ⟨b, off, none⟩ ∧ b < B ∧ x.a = l[i] ∧ AXAt W b (off + i * 6) x ∧ IntsAt W B x.ra x.a.reads ∧ IntsAt W B x.wa x.a.writes := by
  rcases h.row with h0 | ⟨b, off, rfl, hb, hit⟩
  · omega
  · have h1 := hit i hi
    obtain ⟨_, c3, ra, rc, rfl, hr⟩ := h1.c3
    obtain ⟨_, c4, wa, wc, rfl, hw⟩ := h1.c4
    exact ⟨b, off, ⟨l[i], ra, rc, wa, wc⟩, rfl, hb, rfl, ⟨h1.c0, h1.c1, h1.c2, c3, c4, h1.c5⟩, hr, hw⟩

end Go.Proofs.Ytlgljpbbooeanaa
