/-
  NMap, NExpl0.
-/
import Derived.Carry
import Derived.Maps.OwnIn
import Derived.Test.YtcpgpiokjghcnaaM23
/-
  Which number a state has, as a map tells it. Laws on worlds.
-/
namespace Go.Proofs.Ytcpgpiokjghcnaa
open Go.RowKit Go.Maps

/-- One more than a state's number; 0: it has none. -/
def numOf (states : List ByteArray) (s : ByteArray) : Int := match plc states s with | some k => (k : Int) + 1 | none => 0
theorem numOf_some {states : List ByteArray} {s : ByteArray} {k : Nat} (h : plc states s = some k) : numOf states s = (k : Int) + 1 := by simp [numOf, h]
theorem numOf_none {states : List ByteArray} {s : ByteArray} (h : plc states s = none) : numOf states s = 0 := by simp [numOf, h]

theorem skey : Keyed Try.prog 9 := string_keyed Try.underlying9

/-- The map tells the numbers of these states. -/
def MapIs (W : World) (mb : Nat) (states : List ByteArray) : Prop :=
  ∃ n, ∃ D : DataW Unit, W.ownsMap Try.prog 9 (plainElem Try.prog 3) mb n D ∧ n ≤ states.length ∧ ∀ s : ByteArray, D.atKey (.string s.data.toList) (.lit (.int .i64 0)) = .lit (.int .i64 (numOf states s))

theorem MapIs.mv {S : Nat → Prop} {W W' : World} {mb : Nat} {states : List ByteArray} (h : MapIs W mb states) (hm : Mv S W W') (hn : ¬ S mb) : MapIs W' mb states := by
  obtain ⟨n, D, ⟨es, clock, hb, r⟩, h2⟩ := h
  exact ⟨n, D, ⟨es, clock, hm.heap hb hn, r⟩, h2⟩
theorem MapIs.made (W : World) : MapIs (W.alloc (.map #[] 0)) W.heap.size [] :=
  ⟨0, .map [], World.ownsMap_made W _ _ _, Nat.le_refl _, fun _ => rfl⟩
theorem MapIs.blk {W : World} {mb : Nat} {states : List ByteArray} (h : MapIs W mb states) : ∃ es clock, W.heap[mb]? = some (.map es clock) := by
  obtain ⟨n, D, ⟨es, clock, hb, _⟩, _⟩ := h
  exact ⟨es, clock, hb⟩

theorem str_lit {s t : ByteArray} (h : (Lit.string s.data.toList) = .string t.data.toList) : s = t := by
  have h1 : s.data.toList = t.data.toList := by simpa using h
  exact ByteArray.ext (Array.ext' h1)

/-- A state more. -/
theorem MapIs.put {W W' : World} {mb n : Nat} {D : DataW Unit} {states : List ByteArray} {s : ByteArray} (ho : W.ownsMap Try.prog 9 (plainElem Try.prog 3) mb n D) (hn : n ≤ states.length) (hD : ∀ s : ByteArray, D.atKey (.string s.data.toList) (.lit (.int .i64 0)) = .lit (.int .i64 (numOf states s)))
    (hs : plc states s = none) (h' : W'.ownsMap Try.prog 9 (plainElem Try.prog 3) mb (n + 1) (D.put (.string s.data.toList) (.lit (.int .i64 ((states.length : Int) + 1))))) : MapIs W' mb (states ++ [s]) := by
  refine ⟨n + 1, _, h', by simp; omega, fun t => ?_⟩
  have hmap : IsMap D := by obtain ⟨es, clock, _, _, _, hd⟩ := ho; exact ⟨_, hd⟩
  by_cases he : t = s
  · subst he
    rw [atKey_put_same hmap (show WideAt.IsKeyLit (.string t.data.toList) from trivial), numOf_some (plc_new (plc_none.1 hs))]
  · rw [atKey_put_other (fun e => he (str_lit e)), hD t]
    have : numOf (states ++ [s]) t = numOf states t := by
      unfold numOf
      rw [plc_other (fun e => he e.symm)]
    rw [this]

end Go.Proofs.Ytcpgpiokjghcnaa
/-
  A system that is being explored: what lies where. Laws on worlds.
-/
set_option linter.unusedVariables false
namespace Go.Proofs.Ytcpgpiokjghcnaa
open Go.RowKit

/-- What is known between two states. -/
structure EO (w W : World) (nodes : List Node) (states : List ByteArray) (so : Option Addr) (sc mb b9 : Nat) (vo : Option Addr) (vc : Nat) (nxs : List NX) (Z : Nat → Prop) : Prop where
  b4 : W.heap[w.heap.size]? = some (.cells #[.slice none 0 0] 24 (0, 0))
  st : W.ownsRow (w.heap.size + 1) 9 1 (.slice so states.length sc) states.length (states.map Value.string)
  mp : MapIs W mb states
  o9 : W.heap[b9]? = some (.cells #[.slice vo nodes.length vc] 24 (0, 0))
  h9 : w.heap.size < b9
  row : W.ownsRow (w.heap.size + 1) 65 5 (.slice vo nodes.length vc) nodes.length (nxflat nxs)
  eq : nxs.map NX.nd = nodes
  nz : ∀ y ∈ nxs, NXZ W Z y
  zt : ∀ b, Z b → w.heap.size < b ∧ ∃ cs t, W.heap[b]? = some (.cells cs t (0, 0)) ∧ (t = 3 ∨ t = 69)
  bel : Below w.heap.size w W
  hm : w.heap.size < mb

/-- A block that may be written into. -/
structure Apart (w : World) (so vo : Option Addr) (n m sc vc mb b9 : Nat) (Z : Nat → Prop) (b : Nat) : Prop where
  h4 : w.heap.size < b
  hs : (Value.slice so n sc).ownBlock ≠ some b
  hm : b ≠ mb
  h9 : b ≠ b9
  hv : (Value.slice vo m vc).ownBlock ≠ some b
  hz : ¬ Z b

theorem EO.mv {w W W' : World} {nodes : List Node} {states : List ByteArray} {so : Option Addr} {sc mb b9 : Nat} {vo : Option Addr} {vc : Nat} {nxs : List NX} {Z S : Nat → Prop} (h : EO w W nodes states so sc mb b9 vo vc nxs Z) (hm : Mv S W W')
    (hS : ∀ b, S b → Apart w so vo states.length nodes.length sc vc mb b9 Z b) : EO w W' nodes states so sc mb b9 vo vc nxs Z where
  b4 := hm.heap h.b4 (fun hb => by have := (hS _ hb).h4; omega)
  st := row_mv hm h.st (fun k hk hb => (hS _ hb).hs hk)
  mp := h.mp.mv hm (fun hb => (hS _ hb).hm rfl)
  o9 := hm.heap h.o9 (fun hb => (hS _ hb).h9 rfl)
  h9 := h.h9
  row := row_mv hm h.row (fun k hk hb => (hS _ hb).hv hk)
  eq := h.eq
  nz := fun y hy => (h.nz y hy).mv hm (fun b hz hb => (hS _ hb).hz hz) (fun _ hz => hz)
  zt := fun b hz => by
    obtain ⟨h1, cs, t, h2, h3⟩ := h.zt b hz
    exact ⟨h1, cs, t, hm.heap h2 (fun hb => (hS _ hb).hz hz), h3⟩
  bel := h.bel.trans (hm.below h.bel.size (fun b hb => by have := (hS _ hb).h4; omega))
  hm := h.hm
theorem EO.nu {w W W' : World} {nodes : List Node} {states : List ByteArray} {so : Option Addr} {sc mb b9 : Nat} {vo : Option Addr} {vc : Nat} {nxs : List NX} {Z : Nat → Prop} (h : EO w W nodes states so sc mb b9 vo vc nxs Z) (hm : Nu W W') : EO w W' nodes states so sc mb b9 vo vc nxs Z := h.mv hm (fun _ h => h.elim)

/-- A block of a given kind of cells is apart. -/
theorem EO.apart {w W : World} {nodes : List Node} {states : List ByteArray} {so : Option Addr} {sc mb b9 : Nat} {vo : Option Addr} {vc : Nat} {nxs : List NX} {Z : Nat → Prop} (h : EO w W nodes states so sc mb b9 vo vc nxs Z) {b : Nat} {cs : Array Value} {t : TypeId} (hb : W.heap[b]? = some (.cells cs t (0, 0))) (h4 : w.heap.size < b)
    (hs : t ≠ 9) (h9 : t ≠ 24) (hv : (Value.slice vo nodes.length vc).ownBlock ≠ some b) (hz : ¬ Z b) : Apart w so vo states.length nodes.length sc vc mb b9 Z b where
  h4 := h4
  hs := fun e => by
    obtain ⟨_, _, cs', hc⟩ := row_blk h.st e
    rw [hb] at hc
    simp only [Option.some.injEq, Obj.cells.injEq] at hc
    exact hs hc.2.1
  hm := fun e => by
    obtain ⟨es, clock, hc⟩ := h.mp.blk
    rw [← e, hb] at hc
    simp at hc
  h9 := fun e => by
    have hc := h.o9
    rw [← e, hb] at hc
    simp only [Option.some.injEq, Obj.cells.injEq] at hc
    exact h9 hc.2.1
  hv := hv
  hz := hz

/-- More is settled. -/
theorem EO.more {w W : World} {nodes : List Node} {states : List ByteArray} {so : Option Addr} {sc mb b9 : Nat} {vo : Option Addr} {vc : Nat} {nxs : List NX} {Z Z' : Nat → Prop} (h : EO w W nodes states so sc mb b9 vo vc nxs Z) (hZ : ∀ b, Z b → Z' b) (hz' : ∀ b, Z' b → w.heap.size < b ∧ ∃ cs t, W.heap[b]? = some (.cells cs t (0, 0)) ∧ (t = 3 ∨ t = 69)) : EO w W nodes states so sc mb b9 vo vc nxs Z' :=
  ⟨h.b4, h.st, h.mp, h.o9, h.h9, h.row, h.eq, fun y hy => (h.nz y hy).mv (Mv.refl (fun _ => False) _) (fun _ _ => id) hZ, hz', h.bel, h.hm⟩

/-- What is known between two moves of a state. -/
structure EM (w W : World) (nodes : List Node) (states : List ByteArray) (arcs : List Arc) (s : Sight) (so : Option Addr) (sc mb b9 : Nat) (vo : Option Addr) (vc : Nat) (nxs : List NX) (Z : Nat → Prop) (bx : Nat) (va : Option Addr) (vac : Nat) (axs : List AX) (mo : Option Addr) (mc : Nat) (xs : List X) : Prop where
  eo : EO w W nodes states so sc mb b9 vo vc nxs Z
  hx : W.heap[bx]? = some (.cells #[.slice va arcs.length vac, .int .u64 s.props, .bool s.en, .bool s.pr, .bool s.ac] 65 (0, 0))
  xlt : w.heap.size < bx
  xv : (Value.slice vo nodes.length vc).ownBlock ≠ some bx
  arow : W.ownsRow (w.heap.size + 1) 69 6 (.slice va arcs.length vac) arcs.length (axflat axs)
  aeq : axs.map AX.a = arcs
  az : ∀ y ∈ axs, AXZ W Z y
  anz : ∀ g, (Value.slice va arcs.length vac).ownBlock = some g → ¬ Z g
  ms : W.ownsRow (w.heap.size + 1) 44 9 (.slice mo xs.length mc) xs.length (xflat xs)
  mz : ∀ x ∈ xs, IntsZ W Z x.ra x.m.reads ∧ IntsZ W Z x.wa x.m.writes

/-- The blocks that a move's arc is written into. -/
theorem EM.mv {w W W' : World} {nodes : List Node} {states : List ByteArray} {arcs : List Arc} {s : Sight} {so : Option Addr} {sc mb b9 : Nat} {vo : Option Addr} {vc : Nat} {nxs : List NX} {Z S : Nat → Prop} {bx : Nat} {va : Option Addr} {vac : Nat} {axs : List AX} {mo : Option Addr} {mc : Nat} {xs : List X}
    (h : EM w W nodes states arcs s so sc mb b9 vo vc nxs Z bx va vac axs mo mc xs) (hm : Mv S W W') (hS : ∀ b, S b → Apart w so vo states.length nodes.length sc vc mb b9 Z b ∧ b ≠ bx ∧ (Value.slice va arcs.length vac).ownBlock ≠ some b ∧ (Value.slice mo xs.length mc).ownBlock ≠ some b) :
    EM w W' nodes states arcs s so sc mb b9 vo vc nxs Z bx va vac axs mo mc xs where
  eo := h.eo.mv hm (fun b hb => (hS b hb).1)
  hx := hm.heap h.hx (fun hb => (hS _ hb).2.1 rfl)
  xlt := h.xlt
  xv := h.xv
  arow := row_mv hm h.arow (fun k hk hb => (hS _ hb).2.2.1 hk)
  aeq := h.aeq
  az := fun y hy => (h.az y hy).mv hm (fun b hz hb => (hS _ hb).1.hz hz) (fun _ hz => hz)
  anz := h.anz
  ms := row_mv hm h.ms (fun k hk hb => (hS _ hb).2.2.2 hk)
  mz := fun x hx => ⟨(h.mz x hx).1.mv hm (fun b hz hb => (hS _ hb).1.hz hz) (fun _ hz => hz), (h.mz x hx).2.mv hm (fun b hz hb => (hS _ hb).1.hz hz) (fun _ hz => hz)⟩
theorem EM.nu {w W W' : World} {nodes : List Node} {states : List ByteArray} {arcs : List Arc} {s : Sight} {so : Option Addr} {sc mb b9 : Nat} {vo : Option Addr} {vc : Nat} {nxs : List NX} {Z : Nat → Prop} {bx : Nat} {va : Option Addr} {vac : Nat} {axs : List AX} {mo : Option Addr} {mc : Nat} {xs : List X}
    (h : EM w W nodes states arcs s so sc mb b9 vo vc nxs Z bx va vac axs mo mc xs) (hm : Nu W W') : EM w W' nodes states arcs s so sc mb b9 vo vc nxs Z bx va vac axs mo mc xs := h.mv hm (fun _ h => h.elim)

/-- A state more: it stands behind the others, and the map tells its number. -/
theorem EM.state {w W W1 W2 : World} {nodes : List Node} {states : List ByteArray} {arcs : List Arc} {s : Sight} {so : Option Addr} {sc mb b9 : Nat} {vo : Option Addr} {vc : Nat} {nxs : List NX} {Z : Nat → Prop} {bx : Nat} {va : Option Addr} {vac : Nat} {axs : List AX} {mo : Option Addr} {mc : Nat} {xs : List X} {t : ByteArray} {g' sc' : Nat}
    (h : EM w W nodes states arcs s so sc mb b9 vo vc nxs Z bx va vac axs mo mc xs) (hg : W.grownBy W1 (Value.slice so states.length sc).ownBlock) (hr : W1.ownsRow (w.heap.size + 1) 9 1 (.slice (some ⟨g', 0, none⟩) (states.length + 1) sc') (states.length + 1) (states.map Value.string ++ [.string t]))
    (hmp : MapIs W2 mb (states ++ [t])) (hg2 : W1.grownBy W2 (some mb)) : EM w W2 nodes (states ++ [t]) arcs s (some ⟨g', 0, none⟩) sc' mb b9 vo vc nxs Z bx va vac axs mo mc xs ∧ Mv (fun b => (Value.slice so states.length sc).ownBlock = some b ∨ b = mb) W W2 := by
  have hm1 := Mv.grown hg
  have hm2 := Mv.grown hg2
  have hm : Mv (fun b => (Value.slice so states.length sc).ownBlock = some b ∨ b = mb) W W2 := (hm1.mono (fun x hx => .inl (.inl hx))).trans hm2 (fun x hx => .inl (.inr (by simpa using hx.symm)))
  have hts : ∀ b cs t', W.heap[b]? = some (.cells cs t' (0, 0)) → t' ≠ 9 → ¬ ((Value.slice so states.length sc).ownBlock = some b ∨ b = mb) := fun b cs t' hb ht hx => by
    rcases hx with hx | hx
    · obtain ⟨_, _, cs', hc⟩ := row_blk h.eo.st hx
      rw [hb] at hc
      simp only [Option.some.injEq, Obj.cells.injEq] at hc
      exact ht hc.2.1
    · obtain ⟨es, clock, hc⟩ := h.eo.mp.blk
      rw [← hx, hb] at hc
      simp at hc
  have hrow : ∀ {B size n : Nat} {e : TypeId} {v : Value} {ys : List Value}, W.ownsRow B e size v n ys → e ≠ 9 → W2.ownsRow B e size v n ys := fun hr he => row_mv hm hr (fun k hk => by
    obtain ⟨_, _, cs, hc⟩ := row_blk hr hk
    exact hts k cs _ hc he)
  have hZ : ∀ b, Z b → ¬ ((Value.slice so states.length sc).ownBlock = some b ∨ b = mb) := fun b hz => by
    obtain ⟨_, cs, t', hc, ht⟩ := h.eo.zt b hz
    exact hts b cs t' hc (by rcases ht with rfl | rfl <;> decide)
  have hl : (states ++ [t]).length = states.length + 1 := by simp
  have hmapS : (states ++ [t]).map Value.string = states.map Value.string ++ [.string t] := by simp
  have hmbW : mb < W1.heap.size := by
    obtain ⟨es, clock, hc⟩ := h.eo.mp.blk
    have := (Array.getElem?_eq_some_iff.1 hc).1
    have := hm1.size
    omega
  obtain ⟨es0, clock0, hc0⟩ := h.eo.mp.blk
  have hmb1 : W1.heap[mb]? = some (.map es0 clock0) := hm1.heap hc0 (fun e' => by
    obtain ⟨_, _, cs', hc'⟩ := row_blk h.eo.st e'
    rw [hc0] at hc'
    simp at hc')
  have hst2 : W2.ownsRow (w.heap.size + 1) 9 1 (.slice (some ⟨g', 0, none⟩) (states.length + 1) sc') (states.length + 1) (states.map Value.string ++ [.string t]) := row_mv hm2 hr (fun k hk e => by
    obtain ⟨_, _, cs, hc⟩ := row_blk hr hk
    simp only [Option.some.injEq] at e
    rw [← e, hmb1] at hc
    simp at hc)
  refine ⟨⟨⟨?_, ?_, hmp, ?_, h.eo.h9, hrow h.eo.row (by decide), h.eo.eq, fun y hy => (h.eo.nz y hy).mv hm hZ (fun _ hz => hz), fun b hz => ?_, ?_, h.eo.hm⟩, ?_, h.xlt, h.xv, hrow h.arow (by decide), h.aeq, fun y hy => (h.az y hy).mv hm hZ (fun _ hz => hz), h.anz, hrow h.ms (by decide),
    fun x hx => ⟨(h.mz x hx).1.mv hm hZ (fun _ hz => hz), (h.mz x hx).2.mv hm hZ (fun _ hz => hz)⟩⟩, hm⟩
  · exact hm.heap h.eo.b4 (hts _ _ _ h.eo.b4 (by decide))
  · rw [hl, hmapS]; exact hst2
  · exact hm.heap h.eo.o9 (hts _ _ _ h.eo.o9 (by decide))
  · obtain ⟨h1, cs, t', hc, ht⟩ := h.eo.zt b hz
    exact ⟨h1, cs, t', hm.heap hc (hZ b hz), ht⟩
  · exact h.eo.bel.trans (hm.below h.eo.bel.size (fun b hb => by
      rcases hb with hb | hb
      · have := (row_blk h.eo.st hb).1; omega
      · have := h.eo.hm; omega))
  · exact hm.heap h.hx (hts _ _ _ h.hx (by decide))

/-- An arc more. -/
theorem EM.arc {w W W1 W2 : World} {nodes : List Node} {states : List ByteArray} {arcs : List Arc} {s : Sight} {so : Option Addr} {sc mb b9 : Nat} {vo : Option Addr} {vc : Nat} {nxs : List NX} {Z : Nat → Prop} {bx : Nat} {va : Option Addr} {vac : Nat} {axs : List AX} {mo : Option Addr} {mc : Nat} {xs : List X} {ax : AX} {g' vac' : Nat}
    (h : EM w W nodes states arcs s so sc mb b9 vo vc nxs Z bx va vac axs mo mc xs) (hn : Nu W W1) (hg : W1.grownBy W2 (Value.slice va arcs.length vac).ownBlock) (hr : W2.ownsRow (w.heap.size + 1) 69 6 (.slice (some ⟨g', 0, none⟩) (arcs.length + 1) vac') (arcs.length + 1) (axflat axs ++ ax.cells))
    (hg' : (Value.slice va arcs.length vac).ownBlock = some g' ∨ g' = W1.heap.size) (hax : AXZ W Z ax) :
    EM w (W2.setCell ⟨bx, 0, none⟩ (.slice (some ⟨g', 0, none⟩) (arcs.length + 1) vac')) nodes states (arcs ++ [ax.a]) s so sc mb b9 vo vc nxs Z bx (some ⟨g', 0, none⟩) vac' (axs ++ [ax]) mo mc xs := by
  have h1 := h.nu hn
  have hm2 := Mv.grown hg
  have hm3 := Mv.setCell W2 ⟨bx, 0, none⟩ (.slice (some ⟨g', 0, none⟩) (arcs.length + 1) vac')
  have hm : Mv (fun b => (Value.slice va arcs.length vac).ownBlock = some b ∨ b = bx) W1 (W2.setCell ⟨bx, 0, none⟩ (.slice (some ⟨g', 0, none⟩) (arcs.length + 1) vac')) :=
    (hm2.mono (fun x hx => .inl (.inl hx))).trans hm3 (fun x hx => .inl (.inr hx))
  have hba : ∀ g, (Value.slice va arcs.length vac).ownBlock = some g → ∃ cs, W1.heap[g]? = some (.cells cs 69 (0, 0)) ∧ w.heap.size < g := fun g hg => by
    obtain ⟨h2, _, cs, hc⟩ := row_blk h1.arow hg
    exact ⟨cs, hc, by omega⟩
  have hap : ∀ b, ((Value.slice va arcs.length vac).ownBlock = some b ∨ b = bx) → Apart w so vo states.length nodes.length sc vc mb b9 Z b := fun b hb => by
    rcases hb with hb | rfl
    · obtain ⟨cs, hc, hlt⟩ := hba b hb
      exact h1.eo.apart hc hlt (by decide) (by decide) (fun e => by
        obtain ⟨_, _, cs', hc'⟩ := row_blk h1.eo.row e
        rw [hc] at hc'
        simp at hc') (h1.anz b hb)
    · exact h1.eo.apart h1.hx h1.xlt (by decide) (by decide) h1.xv (fun hz => by
        obtain ⟨_, cs, t, hc, ht⟩ := h1.eo.zt _ hz
        rw [h1.hx] at hc
        simp only [Option.some.injEq, Obj.cells.injEq] at hc
        rcases ht with rfl | rfl
        · exact absurd hc.2.1 (by decide)
        · exact absurd hc.2.1 (by decide))
  have hZ : ∀ b, Z b → ¬ ((Value.slice va arcs.length vac).ownBlock = some b ∨ b = bx) := fun b hz hb => (hap b hb).hz hz
  have hl : (arcs ++ [ax.a]).length = arcs.length + 1 := by simp
  refine ⟨h1.eo.mv hm hap, ?_, h.xlt, h.xv, ?_, by simp [h.aeq], fun y hy => ?_, fun g hg2 hz => ?_, row_mv hm h1.ms (fun k hk hb => ?_), fun x hx => ⟨(h1.mz x hx).1.mv hm hZ (fun _ hz => hz), (h1.mz x hx).2.mv hm hZ (fun _ hz => hz)⟩⟩
  · have hx2 : W2.heap[bx]? = _ := hm2.heap h1.hx (fun e => by
      obtain ⟨cs, hc, _⟩ := hba bx e
      rw [h1.hx] at hc
      simp at hc)
    rw [setCell_blk hx2, hl]
    simp
  · rw [hl, axflat_snoc]
    exact row_mv hm3 hr (fun k hk e => by
      obtain ⟨_, _, cs, hc⟩ := row_blk hr hk
      have hx2 : W2.heap[bx]? = _ := hm2.heap h1.hx (fun e => by
        obtain ⟨cs, hc, _⟩ := hba bx e
        rw [h1.hx] at hc
        simp at hc)
      simp only at e
      rw [e, hx2] at hc
      simp at hc)
  · rcases List.mem_append.1 hy with hy | hy
    · exact (h1.az y hy).mv hm hZ (fun _ hz => hz)
    · rw [List.mem_singleton.1 hy]
      exact (hax.mv hn (fun _ _ => id) (fun _ hz => hz)).mv hm hZ (fun _ hz => hz)
  · simp only [Value.ownBlock, Option.some.injEq] at hg2
    subst hg2
    rcases hg' with e | e
    · exact h.anz _ e hz
    · obtain ⟨_, cs, t, hc, _⟩ := h1.eo.zt _ hz
      have := (Array.getElem?_eq_some_iff.1 hc).1
      omega
  · rcases hb with hb | hb
    · obtain ⟨cs, hc, _⟩ := hba k hb
      obtain ⟨_, _, cs', hc'⟩ := row_blk h1.ms hk
      rw [hc] at hc'
      simp at hc'
    · obtain ⟨_, _, cs', hc'⟩ := row_blk h1.ms hk
      rw [hb, h1.hx] at hc'
      simp at hc'

/-- A node more. -/
theorem EM.node {w W W1 W2 : World} {nodes : List Node} {states : List ByteArray} {arcs : List Arc} {s : Sight} {so : Option Addr} {sc mb b9 : Nat} {vo : Option Addr} {vc : Nat} {nxs : List NX} {Z : Nat → Prop} {bx : Nat} {va : Option Addr} {vac : Nat} {axs : List AX} {mo : Option Addr} {mc : Nat} {xs : List X} {g' vc' : Nat}
    (h : EM w W nodes states arcs s so sc mb b9 vo vc nxs Z bx va vac axs mo mc xs) (hn : Nu W W1) (hg : W1.grownBy W2 (Value.slice vo nodes.length vc).ownBlock)
    (hr : W2.ownsRow (w.heap.size + 1) 65 5 (.slice (some ⟨g', 0, none⟩) (nodes.length + 1) vc') (nodes.length + 1) (nxflat nxs ++ [.slice va arcs.length vac, .int .u64 s.props, .bool s.en, .bool s.pr, .bool s.ac])) (hl : (arcs.length : Int) ≤ 17592186044416) :
    EO w (W2.setCell ⟨b9, 0, none⟩ (.slice (some ⟨g', 0, none⟩) (nodes.length + 1) vc')) (nodes ++ [nodeOf s arcs]) states so sc mb b9 (some ⟨g', 0, none⟩) vc' (nxs ++ [⟨nodeOf s arcs, axs, va, vac⟩]) (fun b => Z b ∨ (Value.slice va arcs.length vac).ownBlock = some b) := by
  have h1 := h.nu hn
  have hm2 := Mv.grown hg
  have hm3 := Mv.setCell W2 ⟨b9, 0, none⟩ (.slice (some ⟨g', 0, none⟩) (nodes.length + 1) vc')
  have hm : Mv (fun b => (Value.slice vo nodes.length vc).ownBlock = some b ∨ b = b9) W1 (W2.setCell ⟨b9, 0, none⟩ (.slice (some ⟨g', 0, none⟩) (nodes.length + 1) vc')) :=
    (hm2.mono (fun x hx => .inl (.inl hx))).trans hm3 (fun x hx => .inl (.inr hx))
  have hty : ∀ b cs t', W1.heap[b]? = some (.cells cs t' (0, 0)) → t' ≠ 65 → t' ≠ 24 → ¬ ((Value.slice vo nodes.length vc).ownBlock = some b ∨ b = b9) := fun b cs t' hb ht ht' hx => by
    rcases hx with hx | hx
    · obtain ⟨_, _, cs', hc⟩ := row_blk h1.eo.row hx
      rw [hb] at hc
      simp only [Option.some.injEq, Obj.cells.injEq] at hc
      exact ht hc.2.1
    · have hc := h1.eo.o9
      rw [← hx, hb] at hc
      simp only [Option.some.injEq, Obj.cells.injEq] at hc
      exact ht' hc.2.1
  have hZ0 : ∀ b, (Z b ∨ (Value.slice va arcs.length vac).ownBlock = some b) → w.heap.size < b ∧ ∃ cs t, W1.heap[b]? = some (.cells cs t (0, 0)) ∧ (t = 3 ∨ t = 69) := fun b hz => by
    rcases hz with hz | hz
    · exact h1.eo.zt b hz
    · obtain ⟨h2, _, cs, hc⟩ := row_blk h1.arow hz
      exact ⟨by omega, cs, _, hc, .inr rfl⟩
  have hZ : ∀ b, (Z b ∨ (Value.slice va arcs.length vac).ownBlock = some b) → ¬ ((Value.slice vo nodes.length vc).ownBlock = some b ∨ b = b9) := fun b hz => by
    obtain ⟨_, cs, t, hc, ht⟩ := hZ0 b hz
    exact hty b cs t hc (by rcases ht with rfl | rfl <;> decide) (by rcases ht with rfl | rfl <;> decide)
  have hlen : (nodes ++ [nodeOf s arcs]).length = nodes.length + 1 := by simp
  have hax : axs.length = arcs.length := by rw [← h.aeq, List.length_map]
  have ho9 : W2.heap[b9]? = _ := hm2.heap h1.eo.o9 (fun e => by
    obtain ⟨_, _, cs', hc⟩ := row_blk h1.eo.row e
    rw [h1.eo.o9] at hc
    simp at hc)
  refine ⟨hm.heap h1.eo.b4 (fun hb => ?_), row_mv hm h1.eo.st (fun k hk => ?_), h1.eo.mp.mv hm (fun hb => ?_), ?_, h.eo.h9, ?_, by simp [h.eo.eq], fun y hy => ?_, fun b hz => ?_, h1.eo.bel.trans (hm.below h1.eo.bel.size (fun b hb => ?_)), h.eo.hm⟩
  · rcases hb with hb | hb
    · have := (row_blk h1.eo.row hb).1; omega
    · have := h.eo.h9; omega
  · obtain ⟨_, _, cs, hc⟩ := row_blk h1.eo.st hk
    exact hty k cs _ hc (by decide) (by decide)
  · obtain ⟨es, clock, hc⟩ := h1.eo.mp.blk
    rcases hb with hb | hb
    · obtain ⟨_, _, cs', hc'⟩ := row_blk h1.eo.row hb
      rw [hc] at hc'
      simp at hc'
    · rw [hb, h1.eo.o9] at hc
      simp at hc
  · rw [setCell_blk ho9, hlen]
    simp
  · rw [hlen, nxflat_snoc]
    have : (⟨nodeOf s arcs, axs, va, vac⟩ : NX).cells = [.slice va arcs.length vac, .int .u64 s.props, .bool s.en, .bool s.pr, .bool s.ac] := by simp [NX.cells, nodeOf, hax]
    rw [this]
    exact row_mv hm3 hr (fun k hk e => by
      obtain ⟨_, _, cs, hc⟩ := row_blk hr hk
      simp only at e
      rw [e, ho9] at hc
      simp at hc)
  · rcases List.mem_append.1 hy with hy | hy
    · exact (h1.eo.nz y hy).mv hm (fun b hz => hZ b (.inl hz)) (fun _ hz => .inl hz)
    · rw [List.mem_singleton.1 hy]
      have harow := h1.arow
      rw [← hax] at harow
      refine (NXZ.mk ?_ (ArcsZ.of_row harow (by rw [hax]; exact hl) (fun g hg => by rw [hax] at hg; exact .inr hg) (fun x hx => (h1.az x hx).mv (Mv.refl (fun _ => False) _) (fun _ _ => id) (fun _ hz => .inl hz)))).mv hm hZ (fun _ hz => hz)
      exact h.aeq
  · obtain ⟨h2, cs, t, hc, ht⟩ := hZ0 b hz
    exact ⟨h2, cs, t, hm.heap hc (hZ b hz), ht⟩
  · rcases hb with hb | hb
    · have := (row_blk h1.eo.row hb).1; omega
    · have := h.eo.h9; omega

end Go.Proofs.Ytcpgpiokjghcnaa
