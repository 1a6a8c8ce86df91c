/-
  NRep.
-/
import Derived.Test.YtcpgpiokjghcnaaRows
import Derived.Test.YtcpgpiokjghcnaaM1
import Derived.Test.YtcpgpiokjghcnaaM5
import Derived.Test.YtcpgpiokjghcnaaM6
/-
  What graphs and moves are in memory: laws on worlds.
-/
namespace Go.Proofs.Ytcpgpiokjghcnaa
open Go.RowKit

/-- Numbers that can be read, in memory that is older than B. -/
structure IntsAt (w : World) (B : Nat) (ao : Option Addr) (xs : List Int) : Prop where
  lim : (xs.length : Int) ≤ 17592186044416
  row : xs.length = 0 ∨ ∃ b off, ao = some ⟨b, off, none⟩ ∧ b < B ∧ ∀ i (h : i < xs.length), w.cell? ⟨b, off + i, none⟩ = some (.int .i64 xs[i])

theorem IntsAt.below {w w' : World} {B B' : Nat} {ao : Option Addr} {xs : List Int} (h : IntsAt w B ao xs) (hb : Below B w w') (hB : B ≤ B') : IntsAt w' B' ao xs :=
  ⟨h.lim, h.row.imp id fun ⟨b, off, ha, hlt, hi⟩ => ⟨b, off, ha, Nat.lt_of_lt_of_le hlt hB, fun i h => (hb.cell (p := ⟨b, off + i, none⟩) hlt).trans (hi i h)⟩⟩

def IntsV (w : World) (B : Nat) (v : Value) (xs : List Int) : Prop := ∃ ao cap, v = .slice ao xs.length cap ∧ IntsAt w B ao xs
theorem IntsV.below {w w' : World} {B B' : Nat} {v : Value} {xs : List Int} (h : IntsV w B v xs) (hb : Below B w w') (hB : B ≤ B') : IntsV w' B' v xs := by
  obtain ⟨ao, cap, hv, hi⟩ := h
  exact ⟨ao, cap, hv, hi.below hb hB⟩

/-- An arc. -/
structure ArcAt (w : World) (B b o : Nat) (a : Arc) : Prop where
  c0 : w.cell? ⟨b, o, none⟩ = some (.int .i64 a.proc)
  c1 : w.cell? ⟨b, o + 1, none⟩ = some (.int .i64 a.to)
  c2 : w.cell? ⟨b, o + 2, none⟩ = some (.int .i64 a.bad)
  c3 : ∃ v, w.cell? ⟨b, o + 3, none⟩ = some v ∧ IntsV w B v a.reads
  c4 : ∃ v, w.cell? ⟨b, o + 4, none⟩ = some v ∧ IntsV w B v a.writes
  c5 : w.cell? ⟨b, o + 5, none⟩ = some (.int .u64 a.turns)

theorem ArcAt.below {w w' : World} {B B' b o : Nat} {a : Arc} (h : ArcAt w B b o a) (hb : Below B w w') (hB : B ≤ B') (hlt : b < B) : ArcAt w' B' b o a := by
  have k (i : Nat) {v : Value} (hc : w.cell? ⟨b, i, none⟩ = some v) : w'.cell? ⟨b, i, none⟩ = some v := (hb.cell (p := ⟨b, i, none⟩) hlt).trans hc
  obtain ⟨v3, h3, i3⟩ := h.c3
  obtain ⟨v4, h4, i4⟩ := h.c4
  exact ⟨k _ h.c0, k _ h.c1, k _ h.c2, ⟨v3, k _ h3, i3.below hb hB⟩, ⟨v4, k _ h4, i4.below hb hB⟩, k _ h.c5⟩

structure ArcsAt (w : World) (B : Nat) (ao : Option Addr) (l : List Arc) : Prop where
  lim : (l.length : Int) ≤ 17592186044416
  row : l.length = 0 ∨ ∃ b off, ao = some ⟨b, off, none⟩ ∧ b < B ∧ ∀ i (h : i < l.length), ArcAt w B b (off + i * 6) l[i]
theorem ArcsAt.below {w w' : World} {B B' : Nat} {ao : Option Addr} {l : List Arc} (h : ArcsAt w B ao l) (hb : Below B w w') (hB : B ≤ B') : ArcsAt w' B' ao l :=
  ⟨h.lim, h.row.imp id fun ⟨b, off, ha, hlt, hi⟩ => ⟨b, off, ha, Nat.lt_of_lt_of_le hlt hB, fun i h => (hi i h).below hb hB hlt⟩⟩
def ArcsV (w : World) (B : Nat) (v : Value) (l : List Arc) : Prop := ∃ ao cap, v = .slice ao l.length cap ∧ ArcsAt w B ao l
theorem ArcsV.below {w w' : World} {B B' : Nat} {v : Value} {l : List Arc} (h : ArcsV w B v l) (hb : Below B w w') (hB : B ≤ B') : ArcsV w' B' v l := by
  obtain ⟨ao, cap, hv, hi⟩ := h
  exact ⟨ao, cap, hv, hi.below hb hB⟩

/-- A node. -/
structure NodeAt (w : World) (B b o : Nat) (x : Node) : Prop where
  c0 : ∃ v, w.cell? ⟨b, o, none⟩ = some v ∧ ArcsV w B v x.arcs
  c1 : w.cell? ⟨b, o + 1, none⟩ = some (.int .u64 x.props)
  c2 : w.cell? ⟨b, o + 2, none⟩ = some (.bool x.en)
  c3 : w.cell? ⟨b, o + 3, none⟩ = some (.bool x.pr)
  c4 : w.cell? ⟨b, o + 4, none⟩ = some (.bool x.ac)
theorem NodeAt.below {w w' : World} {B B' b o : Nat} {x : Node} (h : NodeAt w B b o x) (hb : Below B w w') (hB : B ≤ B') (hlt : b < B) : NodeAt w' B' b o x := by
  have k (i : Nat) {v : Value} (hc : w.cell? ⟨b, i, none⟩ = some v) : w'.cell? ⟨b, i, none⟩ = some v := (hb.cell (p := ⟨b, i, none⟩) hlt).trans hc
  obtain ⟨v0, h0, i0⟩ := h.c0
  exact ⟨⟨v0, k _ h0, i0.below hb hB⟩, k _ h.c1, k _ h.c2, k _ h.c3, k _ h.c4⟩

/-- A graph's nodes. -/
structure NodesAt (w : World) (B : Nat) (ao : Option Addr) (l : List Node) : Prop where
  lim : (l.length : Int) ≤ 17592186044416
  row : l.length = 0 ∨ ∃ b off, ao = some ⟨b, off, none⟩ ∧ b < B ∧ ∀ i (h : i < l.length), NodeAt w B b (off + i * 5) l[i]
theorem NodesAt.below {w w' : World} {B B' : Nat} {ao : Option Addr} {l : List Node} (h : NodesAt w B ao l) (hb : Below B w w') (hB : B ≤ B') : NodesAt w' B' ao l :=
  ⟨h.lim, h.row.imp id fun ⟨b, off, ha, hlt, hi⟩ => ⟨b, off, ha, Nat.lt_of_lt_of_le hlt hB, fun i h => (hi i h).below hb hB hlt⟩⟩
theorem NodesAt.nil (w : World) (B : Nat) (ao : Option Addr) : NodesAt w B ao [] := ⟨by decide, .inl rfl⟩

/-- Texts that can be read. -/
structure StrsAt (w : World) (B : Nat) (ao : Option Addr) (l : List ByteArray) : Prop where
  lim : (l.length : Int) ≤ 9223372036854775807
  row : l.length = 0 ∨ ∃ b off, ao = some ⟨b, off, none⟩ ∧ b < B ∧ ∀ i (h : i < l.length), w.cell? ⟨b, off + i, none⟩ = some (.string l[i])
theorem StrsAt.below {w w' : World} {B B' : Nat} {ao : Option Addr} {l : List ByteArray} (h : StrsAt w B ao l) (hb : Below B w w') (hB : B ≤ B') : StrsAt w' B' ao l :=
  ⟨h.lim, h.row.imp id fun ⟨b, off, ha, hlt, hi⟩ => ⟨b, off, ha, Nat.lt_of_lt_of_le hlt hB, fun i h => (hb.cell (p := ⟨b, off + i, none⟩) hlt).trans (hi i h)⟩⟩
theorem StrsAt.nil (w : World) (B : Nat) (ao : Option Addr) : StrsAt w B ao [] := ⟨by decide, .inl rfl⟩

/-- A move as it is handed over: its data, and where its numbers lie. -/
structure X where
  m : Mov
  ra : Option Addr
  rc : Nat
  wa : Option Addr
  wc : Nat

def X.val (x : X) : Value := .agg #[.int .i64 x.m.proc, .int .i64 x.m.edge, .int .i64 x.m.wth, .int .i64 x.m.wedge, .string x.m.to, .int .i64 x.m.bad, .slice x.ra x.m.reads.length x.rc, .slice x.wa x.m.writes.length x.wc, .int .u64 x.m.turns]
def X.enc (x : X) : Array Value := #[x.val]

/-- Numbers in a row that is its owner's. -/
structure OwnI (w : World) (H : Nat) (ao : Option Addr) (cap : Nat) (xs : List Int) : Prop where
  len : xs.length ≤ cap
  lim : (cap : Int) ≤ 9223372036854775807
  lm : (xs.length : Int) ≤ 17592186044416
  row : cap = 0 ∨ ∃ g cs, ao = some ⟨g, 0, none⟩ ∧ H ≤ g ∧ w.heap[g]? = some (.cells cs 3 (0, 0)) ∧ cs.size = cap ∧ ∀ i (h : i < xs.length), cs[i]? = some (.int .i64 xs[i])

structure XOwn (w : World) (H : Nat) (x : X) : Prop where
  r : OwnI w H x.ra x.rc x.m.reads
  w : OwnI w H x.wa x.wc x.m.writes

/-- The blocks of a move. -/
def X.blk (x : X) (b : Nat) : Prop := (0 < x.rc ∧ ∃ a, x.ra = some a ∧ a.block = b) ∨ (0 < x.wc ∧ ∃ a, x.wa = some a ∧ a.block = b)

theorem XOwn.ge {w : World} {H : Nat} {x : X} (h : XOwn w H x) {b : Nat} (hb : x.blk b) : H ≤ b ∧ b < w.heap.size ∧ ∃ cs, w.heap[b]? = some (.cells cs 3 (0, 0)) := by
  rcases hb with ⟨hc, a, ha, rfl⟩ | ⟨hc, a, ha, rfl⟩
  · rcases h.r.row with h0 | ⟨g, cs, hg, hH, hh, _⟩
    · omega
    · rw [hg] at ha; cases ha; exact ⟨hH, (Array.getElem?_eq_some_iff.1 hh).1, cs, hh⟩
  · rcases h.w.row with h0 | ⟨g, cs, hg, hH, hh, _⟩
    · omega
    · rw [hg] at ha; cases ha; exact ⟨hH, (Array.getElem?_eq_some_iff.1 hh).1, cs, hh⟩

theorem OwnI.mv {S : Nat → Prop} {w w' : World} {H H' : Nat} {ao : Option Addr} {cap : Nat} {xs : List Int} (h : OwnI w H ao cap xs) (hm : Mv S w w') (hS : ∀ a, 0 < cap → ao = some a → ¬ S a.block) (hH : H' ≤ H) : OwnI w' H' ao cap xs := by
  refine ⟨h.len, h.lim, h.lm, ?_⟩
  rcases Nat.eq_zero_or_pos cap with h0 | hp
  · exact .inl h0
  · rcases h.row with h0 | ⟨g, cs, hg, hh, hc, r⟩
    · exact .inl h0
    · exact .inr ⟨g, cs, hg, Nat.le_trans hH hh, hm.heap hc (hS _ hp hg), r⟩
theorem XOwn.mv {S : Nat → Prop} {w w' : World} {H H' : Nat} {x : X} (h : XOwn w H x) (hm : Mv S w w') (hS : ∀ b, x.blk b → ¬ S b) (hH : H' ≤ H) : XOwn w' H' x :=
  ⟨h.r.mv hm (fun a hp ha => hS _ (.inl ⟨hp, a, ha, rfl⟩)) hH, h.w.mv hm (fun a hp ha => hS _ (.inr ⟨hp, a, ha, rfl⟩)) hH⟩

/-- What is one's own can be read. -/
theorem OwnI.at {w : World} {H : Nat} {ao : Option Addr} {cap : Nat} {xs : List Int} (h : OwnI w H ao cap xs) : IntsAt w w.heap.size ao xs := by
  have h1 := h.len
  refine ⟨h.lm, ?_⟩
  rcases h.row with h0 | ⟨g, cs, hg, hh, hc, hs, r⟩
  · exact .inl (by omega)
  · refine .inr ⟨g, 0, hg, (Array.getElem?_eq_some_iff.1 hc).1, fun i hi => ?_⟩
    rw [cell_blk hc, Nat.zero_add]
    exact r i hi

/-- A move in nine cells. -/
structure XAt (w : World) (b o : Nat) (x : X) : Prop where
  c0 : w.cell? ⟨b, o, none⟩ = some (.int .i64 x.m.proc)
  c1 : w.cell? ⟨b, o + 1, none⟩ = some (.int .i64 x.m.edge)
  c2 : w.cell? ⟨b, o + 2, none⟩ = some (.int .i64 x.m.wth)
  c3 : w.cell? ⟨b, o + 3, none⟩ = some (.int .i64 x.m.wedge)
  c4 : w.cell? ⟨b, o + 4, none⟩ = some (.string x.m.to)
  c5 : w.cell? ⟨b, o + 5, none⟩ = some (.int .i64 x.m.bad)
  c6 : w.cell? ⟨b, o + 6, none⟩ = some (.slice x.ra x.m.reads.length x.rc)
  c7 : w.cell? ⟨b, o + 7, none⟩ = some (.slice x.wa x.m.writes.length x.wc)
  c8 : w.cell? ⟨b, o + 8, none⟩ = some (.int .u64 x.m.turns)
theorem XAt.mv {S : Nat → Prop} {w w' : World} {b o : Nat} {x : X} (h : XAt w b o x) (hm : Mv S w w') (hS : ¬ S b) : XAt w' b o x :=
  ⟨cell_mv hm h.c0 hS, cell_mv hm h.c1 hS, cell_mv hm h.c2 hS, cell_mv hm h.c3 hS, cell_mv hm h.c4 hS, cell_mv hm h.c5 hS, cell_mv hm h.c6 hS, cell_mv hm h.c7 hS, cell_mv hm h.c8 hS⟩

/-- The cells of moves, one behind the other. -/
def X.cells (x : X) : List Value := [.int .i64 x.m.proc, .int .i64 x.m.edge, .int .i64 x.m.wth, .int .i64 x.m.wedge, .string x.m.to, .int .i64 x.m.bad, .slice x.ra x.m.reads.length x.rc, .slice x.wa x.m.writes.length x.wc, .int .u64 x.m.turns]
def xflat : List X → List Value
  | [] => []
  | s :: r => s.cells ++ xflat r
theorem xflat_append (a b : List X) : xflat (a ++ b) = xflat a ++ xflat b := by
  induction a with
  | nil => rfl
  | cons s r ih => rw [List.cons_append, xflat, xflat, ih, List.append_assoc]
theorem xflat_length (l : List X) : (xflat l).length = l.length * 9 := by
  induction l with
  | nil => rfl
  | cons s r ih => rw [xflat, List.length_append, ih, List.length_cons]; simp [X.cells]; omega
theorem xflat_get : ∀ (l : List X) (i : Nat) (h : i < l.length) (k : Nat), k < 9 → (xflat l)[i * 9 + k]? = (l[i].cells)[k]?
  | s :: r, 0, h, k, hk => by
    rw [xflat, Nat.zero_mul, Nat.zero_add, List.getElem?_append_left (by simpa [X.cells] using hk)]
    rfl
  | s :: r, i + 1, h, k, hk => by
    have h' : i < r.length := by simpa using h
    rw [xflat, List.getElem?_append_right (by simp [X.cells]; omega), show (i + 1) * 9 + k - s.cells.length = i * 9 + k by simp [X.cells]; omega, xflat_get r i h' k hk]
    rfl

/-- Moves in a row that is one's own: each can be read where it lies. -/
theorem xrow_at {w : World} {B g : Nat} {v : Value} {l : List X} (h : w.ownsRow B 44 9 v l.length (xflat l)) (hv : v.ownBlock = some g) (i : Nat) (hi : i < l.length) : XAt w g (i * 9) l[i] := by
  have hc : ∀ k v', k < 9 → (l[i].cells)[k]? = some v' → w.cell? ⟨g, i * 9 + k, none⟩ = some v' := fun k v' hk hv' => by
    have := h.cells hv (i * 9 + k) v' (by rw [xflat_get l i hi k hk]; exact hv')
    rwa [add_block] at this
  exact ⟨hc 0 _ (by omega) rfl, hc 1 _ (by omega) rfl, hc 2 _ (by omega) rfl, hc 3 _ (by omega) rfl, hc 4 _ (by omega) rfl, hc 5 _ (by omega) rfl, hc 6 _ (by omega) rfl, hc 7 _ (by omega) rfl, hc 8 _ (by omega) rfl⟩

end Go.Proofs.Ytcpgpiokjghcnaa
