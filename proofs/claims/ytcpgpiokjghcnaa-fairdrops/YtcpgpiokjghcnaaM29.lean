/-
  NGrRep, NGraphOf0, NGraphOf.
-/
import Derived.Deep.Cut
import Derived.Deep.Slices
import Derived.Test.YtcpgpiokjghcnaaM16
import Derived.Test.YtcpgpiokjghcnaaM28
/-
  A graph of the program's in memory; rows that are written into. Laws on worlds.
-/
set_option linter.unusedVariables false
set_option linter.unusedSimpArgs false
namespace Go.Proofs.Ytcpgpiokjghcnaa
open Go.RowKit

theorem cell_keep {F : Nat → Prop} {w w' : World} (h : KeepF F w w') {b o : Nat} {v : Value} (hF : F b) (hc : w.cell? ⟨b, o, none⟩ = some v) : w'.cell? ⟨b, o, none⟩ = some v := by
  have := h.2 b hF
  unfold World.cell? at hc ⊢
  simp only at hc ⊢
  rw [this]
  exact hc
theorem IntsZ.keep {F : Nat → Prop} {W W' : World} {ao : Option Addr} {xs : List Int} (h : IntsZ W F ao xs) (hk : KeepF F W W') : IntsZ W' F ao xs :=
  ⟨h.lim, h.row.imp id fun ⟨b, off, ha, hz, hi⟩ => ⟨b, off, ha, hz, fun i h => cell_keep hk hz (hi i h)⟩⟩
theorem AXZ.keep {F : Nat → Prop} {W W' : World} {x : AX} (h : AXZ W F x) (hk : KeepF F W W') : AXZ W' F x := ⟨h.r.keep hk, h.w.keep hk⟩
theorem AXAt.keep {F : Nat → Prop} {W W' : World} {b o : Nat} {x : AX} (h : AXAt W b o x) (hk : KeepF F W W') (hF : F b) : AXAt W' b o x :=
  ⟨cell_keep hk hF h.c0, cell_keep hk hF h.c1, cell_keep hk hF h.c2, cell_keep hk hF h.c3, cell_keep hk hF h.c4, cell_keep hk hF h.c5⟩
theorem ArcsZ.keep {F : Nat → Prop} {W W' : World} {ao : Option Addr} {l : List AX} (h : ArcsZ W F ao l) (hk : KeepF F W W') : ArcsZ W' F ao l :=
  ⟨h.lim, h.row.imp id fun ⟨g, off, ha, hz, hi⟩ => ⟨g, off, ha, hz, fun i hl => (hi i hl).keep hk hz⟩, fun x hx => (h.ax x hx).keep hk⟩
theorem NXZ.keep {F : Nat → Prop} {W W' : World} {x : NX} (h : NXZ W F x) (hk : KeepF F W W') : NXZ W' F x := ⟨h.eq, h.ar.keep hk⟩

structure NXAt (W : World) (b o : Nat) (x : NX) : Prop where
  c0 : W.cell? ⟨b, o, none⟩ = some (.slice x.vo x.xs.length x.vc)
  c1 : W.cell? ⟨b, o + 1, none⟩ = some (.int .u64 x.nd.props)
  c2 : W.cell? ⟨b, o + 2, none⟩ = some (.bool x.nd.en)
  c3 : W.cell? ⟨b, o + 3, none⟩ = some (.bool x.nd.pr)
  c4 : W.cell? ⟨b, o + 4, none⟩ = some (.bool x.nd.ac)
theorem NXAt.keep {F : Nat → Prop} {W W' : World} {b o : Nat} {x : NX} (h : NXAt W b o x) (hk : KeepF F W W') (hF : F b) : NXAt W' b o x :=
  ⟨cell_keep hk hF h.c0, cell_keep hk hF h.c1, cell_keep hk hF h.c2, cell_keep hk hF h.c3, cell_keep hk hF h.c4⟩
theorem NXAt.mv {S : Nat → Prop} {W W' : World} {b o : Nat} {x : NX} (h : NXAt W b o x) (hm : Mv S W W') (hS : ¬ S b) : NXAt W' b o x :=
  ⟨cell_mv hm h.c0 hS, cell_mv hm h.c1 hS, cell_mv hm h.c2 hS, cell_mv hm h.c3 hS, cell_mv hm h.c4 hS⟩

/-- A graph of the program's: all its blocks are among F. -/
structure GraphIs (W : World) (F : Nat → Prop) (gb : Nat) (ns : List Node) (g nc rb : Nat) (nxs : List NX) : Prop where
  eq : nxs.map NX.nd = ns
  len : 1 ≤ ns.length ∧ ns.length ≤ 20000
  fg : F gb
  fr : F rb
  fn : F g
  blk : W.heap[gb]? = some (.cells #[.slice (some ⟨rb, 0, none⟩) 1 1, .slice (some ⟨g, 0, none⟩) ns.length nc] 75 (0, 0))
  rblk : W.heap[rb]? = some (.cells #[.int .i64 (ns.length : Int)] 3 (0, 0))
  nat : ∀ i (h : i < nxs.length), NXAt W g (i * 5) nxs[i]
  nz : ∀ x ∈ nxs, NXZ W F x
theorem GraphIs.keep {W W' : World} {F : Nat → Prop} {gb g nc rb : Nat} {ns : List Node} {nxs : List NX} (h : GraphIs W F gb ns g nc rb nxs) (hk : KeepF F W W') : GraphIs W' F gb ns g nc rb nxs :=
  ⟨h.eq, h.len, h.fg, h.fr, h.fn, (hk.2 gb h.fg).trans h.blk, (hk.2 rb h.fr).trans h.rblk, fun i hi => (h.nat i hi).keep hk h.fn, fun x hx => (h.nz x hx).keep hk⟩

/-- A cell of a row that is one's own, written into. -/
theorem row_set {w : World} {B g : Nat} {e : TypeId} {size : Nat} {v : Value} {n : Nat} {xs : List Value} (h : w.ownsRow B e size v n xs) (hv : v.ownBlock = some g) {j : Nat} (hj : j < xs.length) (u : Value) : (w.setCell ⟨g, j, none⟩ u).ownsRow B e size v n (xs.set j u) := by
  refine ⟨by rw [List.length_set]; exact h.1, ?_⟩
  rcases h.2 with ⟨rfl, _⟩ | ⟨g', cap, cur, rfl, hB, hh, hle, hmax, hsz, hcur⟩
  · simp [Value.ownBlock] at hv
  · simp only [Value.ownBlock, Option.some.injEq] at hv
    subst hv
    refine .inr ⟨g', cap, cur.setIfInBounds j u, rfl, hB, setCell_blk hh, hle, hmax, by rw [Array.size_setIfInBounds]; exact hsz, ?_⟩
    rw [Array.toList_setIfInBounds, List.take_set, hcur]

theorem axflat_length (l : List AX) : (axflat l).length = l.length * 6 := by
  induction l with
  | nil => rfl
  | cons s r ih => rw [axflat, List.length_append, ih, List.length_cons]; simp [AX.cells]; omega
theorem nxflat_length (l : List NX) : (nxflat l).length = l.length * 5 := by
  induction l with
  | nil => rfl
  | cons s r ih => rw [nxflat, List.length_append, ih, List.length_cons]; simp [NX.cells]; omega
theorem axflat_set : ∀ {l : List AX} {i k : Nat} {u : Value} {x' : AX} (hi : i < l.length), k < 6 → x'.cells = (l[i]).cells.set k u → (axflat l).set (i * 6 + k) u = axflat (l.set i x')
  | s :: r, 0, k, u, x', _, hk, hx => by
    rw [axflat, List.set_cons_zero, axflat, Nat.zero_mul, Nat.zero_add, List.set_append_left _ _ (by simpa [AX.cells] using hk)]
    rw [hx]
    rfl
  | s :: r, i + 1, k, u, x', hi, hk, hx => by
    have hi' : i < r.length := by simpa using hi
    rw [axflat, List.set_cons_succ, axflat, List.set_append_right _ _ (by simp [AX.cells]; omega), show (i + 1) * 6 + k - s.cells.length = i * 6 + k by simp [AX.cells]; omega, axflat_set hi' hk hx]
theorem nxflat_set : ∀ {l : List NX} {i k : Nat} {u : Value} {x' : NX} (hi : i < l.length), k < 5 → x'.cells = (l[i]).cells.set k u → (nxflat l).set (i * 5 + k) u = nxflat (l.set i x')
  | s :: r, 0, k, u, x', _, hk, hx => by
    rw [nxflat, List.set_cons_zero, nxflat, Nat.zero_mul, Nat.zero_add, List.set_append_left _ _ (by simpa [NX.cells] using hk)]
    rw [hx]
    rfl
  | s :: r, i + 1, k, u, x', hi, hk, hx => by
    have hi' : i < r.length := by simpa using hi
    rw [nxflat, List.set_cons_succ, nxflat, List.set_append_right _ _ (by simp [NX.cells]; omega), show (i + 1) * 5 + k - s.cells.length = i * 5 + k by simp [NX.cells]; omega, nxflat_set hi' hk hx]

theorem axflat_cell {l : List AX} {W : World} {b off : Nat} (h : ∀ i (hi : i < l.length), AXAt W b (off + i * 6) l[i]) : ∀ j u, (axflat l)[j]? = some u → W.cell? ⟨b, off + j, none⟩ = some u := by
  intro j u hj
  have hlt := (List.getElem?_eq_some_iff.1 hj).1
  rw [axflat_length] at hlt
  have hi : j / 6 < l.length := by omega
  have hk : j % 6 < 6 := by omega
  have e : j = j / 6 * 6 + j % 6 := by omega
  rw [e, axflat_get l _ hi _ hk] at hj
  have ha := h _ hi
  rw [e, ← Nat.add_assoc]
  generalize j / 6 = i at *
  generalize j % 6 = k at *
  match k, hk with
  | 0, _ => simp only [AX.cells, List.getElem?_cons_zero, Option.some.injEq] at hj; rw [← hj]; exact ha.c0
  | 1, _ => simp only [AX.cells, List.getElem?_cons_succ, List.getElem?_cons_zero, Option.some.injEq] at hj; rw [← hj]; exact ha.c1
  | 2, _ => simp only [AX.cells, List.getElem?_cons_succ, List.getElem?_cons_zero, Option.some.injEq] at hj; rw [← hj]; exact ha.c2
  | 3, _ => simp only [AX.cells, List.getElem?_cons_succ, List.getElem?_cons_zero, Option.some.injEq] at hj; rw [← hj]; exact ha.c3
  | 4, _ => simp only [AX.cells, List.getElem?_cons_succ, List.getElem?_cons_zero, Option.some.injEq] at hj; rw [← hj]; exact ha.c4
  | 5, _ => simp only [AX.cells, List.getElem?_cons_succ, List.getElem?_cons_zero, Option.some.injEq] at hj; rw [← hj]; exact ha.c5
theorem nxflat_cell {l : List NX} {W : World} {b off : Nat} (h : ∀ i (hi : i < l.length), NXAt W b (off + i * 5) l[i]) : ∀ j u, (nxflat l)[j]? = some u → W.cell? ⟨b, off + j, none⟩ = some u := by
  intro j u hj
  have hlt := (List.getElem?_eq_some_iff.1 hj).1
  rw [nxflat_length] at hlt
  have hi : j / 5 < l.length := by omega
  have hk : j % 5 < 5 := by omega
  have e : j = j / 5 * 5 + j % 5 := by omega
  rw [e, nxflat_get l _ hi _ hk] at hj
  have ha := h _ hi
  rw [e, ← Nat.add_assoc]
  generalize j / 5 = i at *
  generalize j % 5 = k at *
  match k, hk with
  | 0, _ => simp only [NX.cells, List.getElem?_cons_zero, Option.some.injEq] at hj; rw [← hj]; exact ha.c0
  | 1, _ => simp only [NX.cells, List.getElem?_cons_succ, List.getElem?_cons_zero, Option.some.injEq] at hj; rw [← hj]; exact ha.c1
  | 2, _ => simp only [NX.cells, List.getElem?_cons_succ, List.getElem?_cons_zero, Option.some.injEq] at hj; rw [← hj]; exact ha.c2
  | 3, _ => simp only [NX.cells, List.getElem?_cons_succ, List.getElem?_cons_zero, Option.some.injEq] at hj; rw [← hj]; exact ha.c3
  | 4, _ => simp only [NX.cells, List.getElem?_cons_succ, List.getElem?_cons_zero, Option.some.injEq] at hj; rw [← hj]; exact ha.c4
theorem axflat_one (l : List AX) : ∀ u ∈ axflat l, u.oneCell' = true := by
  induction l with
  | nil => intro u hu; cases hu
  | cons s r ih =>
    intro u hu
    rw [axflat] at hu
    rcases List.mem_append.1 hu with h | h
    · simp [AX.cells] at h
      rcases h with rfl | rfl | rfl | rfl | rfl | rfl <;> rfl
    · exact ih u h
theorem nxflat_one (l : List NX) : ∀ u ∈ nxflat l, u.oneCell' = true := by
  induction l with
  | nil => intro u hu; cases hu
  | cons s r ih =>
    intro u hu
    rw [nxflat] at hu
    rcases List.mem_append.1 hu with h | h
    · simp [NX.cells] at h
      rcases h with rfl | rfl | rfl | rfl | rfl <;> rfl
    · exact ih u h
theorem nxrow_at {W : World} {B g : Nat} {v : Value} {l : List NX} (h : W.ownsRow B 65 5 v l.length (nxflat l)) (hv : v.ownBlock = some g) (i : Nat) (hi : i < l.length) : NXAt W g (i * 5) l[i] := by
  have hc : ∀ k v', k < 5 → (l[i].cells)[k]? = some v' → W.cell? ⟨g, i * 5 + k, none⟩ = some v' := fun k v' hk hv' => by
    have := h.cells hv (i * 5 + k) v' (by rw [nxflat_get l i hi k hk]; exact hv')
    rwa [add_block] at this
  exact ⟨hc 0 _ (by omega) rfl, hc 1 _ (by omega) rfl, hc 2 _ (by omega) rfl, hc 3 _ (by omega) rfl, hc 4 _ (by omega) rfl⟩

/-- Arcs as they lie, in memory older than H. -/
structure ArcsO (W : World) (H : Nat) (vo : Option Addr) (l : List AX) : Prop where
  lim : (l.length : Int) ≤ 17592186044416
  row : l.length = 0 ∨ ∃ b off, vo = some ⟨b, off, none⟩ ∧ b < H ∧ ∀ i (h : i < l.length), AXAt W b (off + i * 6) l[i]
  rd : ∀ x ∈ l, IntsAt W H x.ra x.a.reads ∧ IntsAt W H x.wa x.a.writes
theorem ArcsO.below {W W' : World} {H H' : Nat} {vo : Option Addr} {l : List AX} (h : ArcsO W H vo l) (hb : Below H W W') (hH : H ≤ H') : ArcsO W' H' vo l :=
  ⟨h.lim, h.row.imp id fun ⟨b, off, ha, hlt, hi⟩ => ⟨b, off, ha, by omega, fun i hl => by
    have k (o : Nat) {v : Value} (hc : W.cell? ⟨b, o, none⟩ = some v) : W'.cell? ⟨b, o, none⟩ = some v := (hb.cell (p := ⟨b, o, none⟩) hlt).trans hc
    have := hi i hl
    exact ⟨k _ this.c0, k _ this.c1, k _ this.c2, k _ this.c3, k _ this.c4, k _ this.c5⟩⟩, fun x hx => ⟨(h.rd x hx).1.below hb hH, (h.rd x hx).2.below hb hH⟩⟩

instance : Inhabited AX := ⟨⟨⟨0, 0, 0, [], [], 0⟩, none, 0, none, 0⟩⟩
instance : Inhabited NX := ⟨⟨⟨[], 0, false, false, false⟩, [], none, 0⟩⟩

theorem ArcsAt.axs {W : World} {B : Nat} {ao : Option Addr} {l : List Arc} (h : ArcsAt W B ao l) : ∃ axs : List AX, axs.map AX.a = l ∧ axs.length = l.length ∧ ArcsO W B ao axs := by
  rcases h.row with h0 | ⟨b, off, rfl, hb, hit⟩
  · have : l = [] := List.length_eq_zero_iff.1 h0
    subst this
    exact ⟨[], rfl, rfl, by decide, .inl rfl, fun x hx => absurd hx (by simp)⟩
  · have hx : ∀ i, i < l.length → ∃ x : AX, ∀ hi : i < l.length, x.a = l[i] ∧ AXAt W b (off + i * 6) x ∧ IntsAt W B x.ra x.a.reads ∧ IntsAt W B x.wa x.a.writes := fun i hi => by
      obtain ⟨b', off', x, he, hb', hxa, hat, hr, hw⟩ := h.lie i hi
      cases he
      exact ⟨x, fun _ => ⟨hxa, hat, hr, hw⟩⟩
    obtain ⟨I, hI⟩ := Go.Deep.choose_lt hx
    refine ⟨(List.range l.length).map I, ?_, by simp, by simpa using h.lim, .inr ⟨b, off, rfl, hb, fun i hi => ?_⟩, fun x hx => ?_⟩
    · apply List.ext_getElem (by simp)
      intro i h1 h2
      simp only [List.map_map, List.getElem_map, List.getElem_range, Function.comp]
      exact (hI i h2 h2).1
    · have hi' : i < l.length := by simpa using hi
      simp only [List.getElem_map, List.getElem_range]
      exact (hI i hi' hi').2.1
    · obtain ⟨i, hi, rfl⟩ := List.mem_map.1 hx
      have hi' : i < l.length := by simpa using hi
      exact (hI i hi' hi').2.2

/-- Nodes as they lie, in memory older than H. -/
theorem NodesAt.nxs {W : World} {B : Nat} {ao : Option Addr} {l : List Node} (h : NodesAt W B ao l) : ∃ nxs : List NX, nxs.map NX.nd = l ∧ nxs.length = l.length ∧ (l.length = 0 ∨ ∃ b off, ao = some ⟨b, off, none⟩ ∧ b < B ∧ ∀ i (hi : i < nxs.length), NXAt W b (off + i * 5) nxs[i]) ∧ ∀ x ∈ nxs, x.xs.map AX.a = x.nd.arcs ∧ ArcsO W B x.vo x.xs := by
  rcases h.row with h0 | ⟨b, off, rfl, hb, hit⟩
  · have : l = [] := List.length_eq_zero_iff.1 h0
    subst this
    exact ⟨[], rfl, rfl, .inl rfl, fun x hx => absurd hx (by simp)⟩
  · have hx : ∀ i, i < l.length → ∃ x : NX, ∀ hi : i < l.length, x.nd = l[i] ∧ NXAt W b (off + i * 5) x ∧ x.xs.map AX.a = x.nd.arcs ∧ ArcsO W B x.vo x.xs := fun i hi => by
      obtain ⟨⟨_, c0, vo, vc, rfl, har⟩, c1, c2, c3, c4⟩ := hit i hi
      obtain ⟨axs, he, hl, ho⟩ := har.axs
      exact ⟨⟨l[i], axs, vo, vc⟩, fun _ => ⟨rfl, ⟨by rw [c0, hl], c1, c2, c3, c4⟩, he, ho⟩⟩
    obtain ⟨I, hI⟩ := Go.Deep.choose_lt hx
    refine ⟨(List.range l.length).map I, ?_, by simp, .inr ⟨b, off, rfl, hb, fun i hi => ?_⟩, fun x hx => ?_⟩
    · apply List.ext_getElem (by simp)
      intro i h1 h2
      simp only [List.map_map, List.getElem_map, List.getElem_range, Function.comp]
      exact (hI i h2 h2).1
    · have hi' : i < l.length := by simpa using hi
      simp only [List.getElem_map, List.getElem_range]
      exact (hI i hi' hi').2.1
    · obtain ⟨i, hi, rfl⟩ := List.mem_map.1 hx
      have hi' : i < l.length := by simpa using hi
      exact (hI i hi' hi').2.2

set_option maxHeartbeats 2000000 in
set_option maxRecDepth 100000 in
theorem CloneA_any (w : World) (H : Nat) (ao : Option Addr) (cap : Nat) (l : List AX) (h : ArcsO w H ao l) (hl : l.length ≤ 262144) : Calls Try.prog 22 #[.slice ao l.length cap] w fun e w' => Nu w w' ∧ ∃ ao' cap', e = .returned (.slice ao' l.length cap') ∧ w'.ownsRow w.heap.size 69 6 (.slice ao' l.length cap') l.length (axflat l) := by
  have HR : Hid _ := h.row
  clear h
  have q22 : ∀ (w : World) (a : Option Addr) (n c n' c' : Nat), (binOp .eql 63 (.slice a n c) (.slice none n' c')).run Try.prog w = .ok (.bool a.isNone) w := fun w a n c n' c' => Lib.run_eql_slice_nil w _ _ a n c n' c' Try.underlying63
  cases ao with
  | none =>
    have hl : l = [] := by
      rcases HR.out with h0 | ⟨b, off, h0, _⟩
      · exact List.length_eq_zero_iff.1 h0
      · cases h0
    subst hl
    go_enter Try.func22, Try.ntmps22
    go_wp2
    go_ret
    exact ⟨Mv.refl _ _, none, 0, rfl, rfl, .inl ⟨rfl, rfl⟩⟩
  | some a =>
    obtain ⟨i0, hi, hz0, hz1, hz2⟩ := info_parts c_infoArc
    go_enter Try.func22, Try.ntmps22
    go_wp2_with (at_builtin; refine wpList_append_own _ rfl _ _ 63 rfl w.heap.size 69 i0 (.agg #[.int .i64 0, .int .i64 0, .int .i64 0, .slice none 0 0, .slice none 0 0, .int .u64 0]) 6 80 Try.underlying63 hi hz0 hz1 hz2 rfl (by decide) _ _ _ rfl (World.ownsRow_made w #[] 0 (Nat.le_refl _) (Nat.zero_le _) rfl) a l.length cap (axflat l) rfl ?qc1 ?qc2 ?qc3 ?qc4 ?qc5 ?qc6 ?_)
    case qc1 => exact axflat_length l
    case qc2 =>
      intro j u hj
      rcases HR.out with h0 | ⟨b, off, h0, _, hit⟩
      · rw [List.length_eq_zero_iff.1 h0] at hj; simp [axflat] at hj
      · cases h0
        rw [Addr.add_lit]
        exact Lib.cell?_alloc_some _ (axflat_cell hit j u hj)
    case qc3 => exact axflat_one l
    case qc4 => unfold maxLen; omega
    case qc5 => omega
    case qc6 => simp
    intro v' w1 hown hgrow hnil
    go_wp2
    go_ret
    have hb : Below w.heap.size w w1 := ((Below.refl _ w).alloc (Nat.le_refl _) _).grown hgrow (by simp) (by intro k hk; simp [Value.ownBlock] at hk; omega)
    refine ⟨Nu.of_below hb, ?_⟩
    rcases hown.2 with ⟨hv, hn⟩ | ⟨g, cap', cur, hv, hg, hblk, hle, hmax, hsz, hcur⟩
    · exact absurd hv hnil
    · subst hv
      exact ⟨_, _, rfl, hown⟩

set_option maxHeartbeats 2000000 in
set_option maxRecDepth 100000 in
theorem CloneN_any (w : World) (b off cap : Nat) (l : List NX) (hit : ∀ i (hi : i < l.length), NXAt w b (off + i * 5) l[i]) (hl0 : 1 ≤ l.length) (hl : l.length ≤ 20000) : Calls Try.prog 21 #[.slice (some ⟨b, off, none⟩) l.length cap] w fun e w' => Nu w w' ∧ ∃ g cap', e = .returned (.slice (some ⟨g, 0, none⟩) l.length cap') ∧ w'.ownsRow w.heap.size 65 5 (.slice (some ⟨g, 0, none⟩) l.length cap') l.length (nxflat l) := by
  have HR := hid hit
  clear hit
  have q22 : ∀ (w : World) (a : Option Addr) (n c n' c' : Nat), (binOp .eql 22 (.slice a n c) (.slice none n' c')).run Try.prog w = .ok (.bool a.isNone) w := fun w a n c n' c' => Lib.run_eql_slice_nil w _ _ a n c n' c' Try.underlying22
  obtain ⟨i0, hi, hz0, hz1, hz2⟩ := info_parts c_infoNode
  go_enter Try.func21, Try.ntmps21
  go_wp2_with (at_builtin; refine wpList_append_own _ rfl _ _ 22 rfl w.heap.size 65 i0 (.agg #[.slice none 0 0, .int .u64 0, .bool false, .bool false, .bool false]) 5 40 Try.underlying22 hi hz0 hz1 hz2 rfl (by decide) _ _ _ rfl (World.ownsRow_made w #[] 0 (Nat.le_refl _) (Nat.zero_le _) rfl) ⟨b, off, none⟩ l.length cap (nxflat l) rfl ?qc1 ?qc2 ?qc3 ?qc4 ?qc5 ?qc6 ?_)
  case qc1 => exact nxflat_length l
  case qc2 =>
    intro j u hj
    rw [Addr.add_lit]
    exact Lib.cell?_alloc_some _ (nxflat_cell HR.out j u hj)
  case qc3 => exact nxflat_one l
  case qc4 => unfold maxLen; omega
  case qc5 => omega
  case qc6 => simp
  intro v' w1 hown hgrow hnil
  go_wp2
  go_ret
  have hb : Below w.heap.size w w1 := ((Below.refl _ w).alloc (Nat.le_refl _) _).grown hgrow (by simp) (by intro k hk; simp [Value.ownBlock] at hk; omega)
  refine ⟨Nu.of_below hb, ?_⟩
  rcases hown.2 with ⟨hv, hn⟩ | ⟨g, cap', cur, hv, hg, hblk, hle, hmax, hsz, hcur⟩
  · exact absurd hv hnil
  · subst hv
    exact ⟨_, _, rfl, hown⟩

end Go.Proofs.Ytcpgpiokjghcnaa
/-
  A graph that is being copied: what lies where. Laws on worlds, and the operations of 'arcs[k].Reads, arcs[k].Writes = slices.Clone(..), slices.Clone(..)'.
-/
set_option linter.unusedVariables false
set_option linter.unusedSimpArgs false
namespace Go.Proofs.Ytcpgpiokjghcnaa
open Go.RowKit

/-- Blocks that are settled: rows of numbers and of arcs, from H on. -/
def Zt (H : Nat) (W : World) (b : Nat) : Prop := H ≤ b ∧ ∃ cs t, W.heap[b]? = some (.cells cs t (0, 0)) ∧ (t = 3 ∨ t = 69)
def ZI (H : Nat) (W : World) (b : Nat) : Prop := H ≤ b ∧ ∃ cs, W.heap[b]? = some (.cells cs 3 (0, 0))

structure GO (w1 wr : World) (g nc : Nat) (ns : List Node) (i : Nat) (nxs : List NX) : Prop where
  eq : nxs.map NX.nd = ns
  row : wr.ownsRow w1.heap.size 65 5 (.slice (some ⟨g, 0, none⟩) ns.length nc) ns.length (nxflat nxs)
  ax : ∀ x ∈ nxs, x.xs.map AX.a = x.nd.arcs
  old : ∀ j (hj : j < nxs.length), i ≤ j → ArcsO wr w1.heap.size nxs[j].vo nxs[j].xs
  new : ∀ j (hj : j < nxs.length), j < i → ArcsZ wr (Zt w1.heap.size wr) nxs[j].vo nxs[j].xs
  nu : Nu w1 wr

structure GCp (wr w3 wk : World) (ao3 : Option Addr) (c3 : Nat) (xs0 axs : List AX) (k : Nat) : Prop where
  len : axs.length = xs0.length
  eq : axs.map AX.a = xs0.map AX.a
  row : wk.ownsRow wr.heap.size 69 6 (.slice ao3 xs0.length c3) xs0.length (axflat axs)
  old : ∀ j (hj : j < axs.length) (hj' : j < xs0.length), k ≤ j → axs[j] = xs0[j]
  new : ∀ j (hj : j < axs.length), j < k → AXZ wk (ZI wr.heap.size wk) axs[j]
  mv : Mv (fun b => (Value.slice ao3 xs0.length c3).ownBlock = some b) w3 wk

theorem GO.step {w1 wr w3 wk : World} {g nc : Nat} {ns : List Node} {i : Nat} {nxs : List NX} {ao3 : Option Addr} {c3 : Nat} {axs : List AX} (h : GO w1 wr g nc ns i nxs) (hi : i < nxs.length) (h3 : Nu wr w3) (hm : Mv (fun b => (Value.slice ao3 axs.length c3).ownBlock = some b) w3 wk)
    (hrow : wk.ownsRow wr.heap.size 69 6 (.slice ao3 axs.length c3) axs.length (axflat axs)) (heq : axs.map AX.a = nxs[i].xs.map AX.a) (hz : ∀ x ∈ axs, AXZ wk (ZI wr.heap.size wk) x) :
    GO w1 (wk.setCell ⟨g, i * 5, none⟩ (.slice ao3 axs.length c3)) g nc ns (i + 1) (nxs.set i ⟨nxs[i].nd, axs, ao3, c3⟩) := by
  have hl : nxs.length = ns.length := by rw [← h.eq, List.length_map]
  have hgb := row_blk h.row (k := g) rfl
  have hm3 := Mv.setCell wk ⟨g, i * 5, none⟩ (.slice ao3 axs.length c3)
  have hmk : Nu wr wk := h3.trans hm (fun x hx => .inr ((row_blk hrow hx).1))
  have hm' : Mv (· = g) wr (wk.setCell ⟨g, i * 5, none⟩ (.slice ao3 axs.length c3)) := (hmk.mono (fun _ h => h.elim)).trans hm3 (fun x hx => .inl hx)
  have hsz := h.nu.size
  have hrowk : wk.ownsRow w1.heap.size 65 5 (.slice (some ⟨g, 0, none⟩) ns.length nc) ns.length (nxflat nxs) := row_mv hmk h.row (fun _ _ => id)
  have hzt : ∀ b, Zt w1.heap.size wr b → ¬ b = g := fun b ⟨_, cs, t, hc, ht⟩ e => by
    obtain ⟨_, _, cs', hc'⟩ := hgb
    rw [e, hc'] at hc
    simp only [Option.some.injEq, Obj.cells.injEq] at hc
    rcases ht with ht | ht <;> (rw [← hc.2.1] at ht; exact absurd ht (by decide))
  have hzt' : ∀ b, Zt w1.heap.size wr b → Zt w1.heap.size (wk.setCell ⟨g, i * 5, none⟩ (.slice ao3 axs.length c3)) b := fun b hb => by
    obtain ⟨h1, cs, t, hc, ht⟩ := hb
    exact ⟨h1, cs, t, hm'.heap hc (hzt b ⟨h1, cs, t, hc, ht⟩), ht⟩
  have hgr : ∀ b, wr.heap.size ≤ b → ¬ b = g := fun b hb e => by omega
  have hnlen : (nxs.set i ⟨nxs[i].nd, axs, ao3, c3⟩).length = nxs.length := List.length_set
  refine ⟨?_, ?_, fun x hx => ?_, fun j hj hij => ?_, fun j hj hij => ?_, ?_⟩
  · rw [List.map_set]
    show (nxs.map NX.nd).set i nxs[i].nd = ns
    rw [← List.getElem_map NX.nd (h := by simpa using hi), List.set_getElem_self, h.eq]
  · have hj : i * 5 < (nxflat nxs).length := by rw [nxflat_length]; omega
    have := row_set hrowk (g := g) rfl hj (.slice ao3 axs.length c3)
    rw [← Nat.add_zero (i * 5), nxflat_set (x' := ⟨nxs[i].nd, axs, ao3, c3⟩) hi (by omega) rfl] at this
    exact this
  · rcases List.mem_or_eq_of_mem_set hx with hx | rfl
    · exact h.ax x hx
    · exact heq.trans (h.ax _ (List.getElem_mem hi))
  · have hj' : j < nxs.length := by rwa [hnlen] at hj
    have hne : i ≠ j := by omega
    have := h.old j hj' (by omega)
    rw [List.getElem_set_ne hne]
    exact this.below (hm'.below hsz (fun x hx => by omega)) (Nat.le_refl _)
  · have hj' : j < nxs.length := by rwa [hnlen] at hj
    by_cases hji : j = i
    · subst hji
      rw [List.getElem_set_self]
      refine (ArcsZ.of_row hrow (by
        have h1 := (h.old j hj' (Nat.le_refl _)).lim
        have h2 := congrArg List.length heq
        simp only [List.length_map] at h2
        rw [h2]
        exact h1) (Z := fun b => Zt w1.heap.size wk b ∧ ¬ b = g) (fun b hb => ?_) (fun x hx => ?_)).mv hm3 (fun b hb e => hb.2 e) (fun b hb => ?_)
      · obtain ⟨h1, _, cs, hc⟩ := row_blk hrow hb
        exact ⟨⟨by omega, cs, _, hc, .inr rfl⟩, hgr b h1⟩
      · exact (hz x hx).mv (Mv.refl (fun _ => False) _) (fun _ _ => id) (fun b ⟨h1, cs, hc⟩ => ⟨⟨by omega, cs, _, hc, .inl rfl⟩, hgr b h1⟩)
      · obtain ⟨⟨h1, cs, t, hc, ht⟩, hne⟩ := hb
        exact ⟨h1, cs, t, hm3.heap hc hne, ht⟩
    · have hne : i ≠ j := fun e => hji e.symm
      rw [List.getElem_set_ne hne]
      exact (h.new j hj' (by omega)).mv hm' hzt hzt'
  · exact h.nu.trans hm' (fun x hx => .inr (by have := hgb.1; omega))

/-- A copy of numbers, apart from the row that is written into. -/
def Fr (w : World) (H g3 : Nat) (ao : Option Addr) (cap : Nat) (xs : List Int) : Prop := OwnI w H ao cap xs ∧ ∀ a, 0 < cap → ao = some a → a.block ≠ g3
theorem Fr.mv {w w' : World} {H g3 : Nat} {ao : Option Addr} {cap : Nat} {xs : List Int} (h : Fr w H g3 ao cap xs) (hm : Mv (· = g3) w w') : Fr w' H g3 ao cap xs := ⟨h.1.mv hm (fun a hp ha => h.2 a hp ha) (Nat.le_refl _), h.2⟩

def R9 (g3 n3 c3 k : Nat) (x : AX) (H : Nat) : Nat → World → Value → Prop
  | 0, _, v => v = .slice (some ⟨g3, 0, none⟩) n3 c3
  | 1, _, v => v = .int .i64 (k : Int)
  | 2, _, v => v = .slice (some ⟨g3, 0, none⟩) n3 c3
  | 3, _, v => v = .int .i64 (k : Int)
  | 4, _, v => v = .slice (some ⟨g3, 0, none⟩) n3 c3
  | 5, _, v => v = .int .i64 (k : Int)
  | 6, _, v => v = .pointer (some ⟨g3, k * 6, none⟩)
  | 7, _, v => v = .pointer (some ⟨g3, k * 6 + 3, none⟩)
  | 8, _, v => v = .slice x.ra x.a.reads.length x.rc
  | 9, w, v => ∃ ra rc, v = .slice ra x.a.reads.length rc ∧ Fr w H g3 ra rc x.a.reads
  | 10, _, v => v = .slice (some ⟨g3, 0, none⟩) n3 c3
  | 11, _, v => v = .int .i64 (k : Int)
  | 12, _, v => v = .pointer (some ⟨g3, k * 6, none⟩)
  | 13, _, v => v = .pointer (some ⟨g3, k * 6 + 4, none⟩)
  | 14, _, v => v = .slice x.wa x.a.writes.length x.wc
  | 15, w, v => ∃ ra rc, v = .slice ra x.a.writes.length rc ∧ Fr w H g3 ra rc x.a.writes
  | 16, _, v => v = .pointer (some ⟨g3, k * 6, none⟩)
  | 17, _, v => v = .pointer (some ⟨g3, k * 6 + 3, none⟩)
  | 19, _, v => v = .pointer (some ⟨g3, k * 6, none⟩)
  | 20, _, v => v = .pointer (some ⟨g3, k * 6 + 4, none⟩)
  | _, _, v => v = undef
theorem R9.mv {g3 n3 c3 k : Nat} {x : AX} {H : Nat} : ∀ (i : Nat) (w w' : World) (v : Value), Mv (· = g3) w w' → R9 g3 n3 c3 k x H i w v → R9 g3 n3 c3 k x H i w' v := by
  intro i w w' v hn h
  unfold R9 at h ⊢
  split <;> simp only at h <;> first
    | exact h
    | (obtain ⟨ra, rc, h1, h2⟩ := h; exact ⟨ra, rc, h1, h2.mv hn⟩)

/-- What the two stores have left. -/
def J9 (B H g3 n3 c3 : Nat) (axs : List AX) (k : Nat) (x : AX) (p q : Nat) (l : Array Bool) (w : World) : Prop :=
  ∃ x' : AX, x'.a = x.a ∧ w.ownsRow B 69 6 (.slice (some ⟨g3, 0, none⟩) n3 c3) n3 (axflat (axs.set k x')) ∧
    (l.getD p false = true → Fr w H g3 x'.ra x'.rc x.a.reads) ∧ (l.getD p false = false → x'.ra = x.ra ∧ x'.rc = x.rc) ∧
    (l.getD q false = true → Fr w H g3 x'.wa x'.wc x.a.writes) ∧ (l.getD q false = false → x'.wa = x.wa ∧ x'.wc = x.wc)
theorem J9.nu {B H g3 n3 c3 : Nat} {axs : List AX} {k : Nat} {x : AX} {p q : Nat} {l : Array Bool} {w w' : World} (h : J9 B H g3 n3 c3 axs k x p q l w) (hm : Nu w w') {i : Nat} (hp : p ≠ i) (hq : q ≠ i) : J9 B H g3 n3 c3 axs k x p q (l.setIfInBounds i true) w' := by
  obtain ⟨x', h1, h2, h3, h4, h5, h6⟩ := h
  have hm' : Mv (· = g3) w w' := hm.mono (fun _ h => h.elim)
  exact ⟨x', h1, row_mv hm h2 (fun _ _ => id), fun e => (h3 (by rwa [getD_set_ne hp] at e)).mv hm', fun e => h4 (by rwa [getD_set_ne hp] at e), fun e => (h5 (by rwa [getD_set_ne hq] at e)).mv hm', fun e => h6 (by rwa [getD_set_ne hq] at e)⟩
theorem J9.storeP {B H g3 n3 c3 : Nat} {axs : List AX} {k : Nat} {x : AX} {p q : Nat} {l : Array Bool} {w : World} (h : J9 B H g3 n3 c3 axs k x p q l w) (hk : k < axs.length) (hp : p < l.size) (hpq : p ≠ q) {ra : Option Addr} {rc : Nat} (hf : Fr w H g3 ra rc x.a.reads) :
    J9 B H g3 n3 c3 axs k x p q (l.setIfInBounds p true) (w.setCell ⟨g3, k * 6 + 3, none⟩ (.slice ra x.a.reads.length rc)) := by
  obtain ⟨x', h1, h2, h3, h4, h5, h6⟩ := h
  have hm : Mv (· = g3) w (w.setCell ⟨g3, k * 6 + 3, none⟩ (.slice ra x.a.reads.length rc)) := Mv.setCell w ⟨g3, k * 6 + 3, none⟩ _
  have hk' : k < (axs.set k x').length := by rw [List.length_set]; exact hk
  have hrow := row_set h2 (g := g3) rfl (j := k * 6 + 3) (by rw [axflat_length, List.length_set]; omega) (.slice ra x.a.reads.length rc)
  rw [axflat_set (x' := ⟨x'.a, ra, rc, x'.wa, x'.wc⟩) hk' (by omega) (by simp [AX.cells, h1]), List.set_set] at hrow
  exact ⟨⟨x'.a, ra, rc, x'.wa, x'.wc⟩, h1, hrow, fun _ => hf.mv hm, fun e => (by rw [getD_set_self hp] at e; cases e), fun e => (h5 (by rwa [getD_set_ne (fun e => hpq e.symm)] at e)).mv hm, fun e => h6 (by rwa [getD_set_ne (fun e => hpq e.symm)] at e)⟩
theorem J9.storeQ {B H g3 n3 c3 : Nat} {axs : List AX} {k : Nat} {x : AX} {p q : Nat} {l : Array Bool} {w : World} (h : J9 B H g3 n3 c3 axs k x p q l w) (hk : k < axs.length) (hq : q < l.size) (hpq : p ≠ q) {wa : Option Addr} {wc : Nat} (hf : Fr w H g3 wa wc x.a.writes) :
    J9 B H g3 n3 c3 axs k x p q (l.setIfInBounds q true) (w.setCell ⟨g3, k * 6 + 4, none⟩ (.slice wa x.a.writes.length wc)) := by
  obtain ⟨x', h1, h2, h3, h4, h5, h6⟩ := h
  have hm : Mv (· = g3) w (w.setCell ⟨g3, k * 6 + 4, none⟩ (.slice wa x.a.writes.length wc)) := Mv.setCell w ⟨g3, k * 6 + 4, none⟩ _
  have hk' : k < (axs.set k x').length := by rw [List.length_set]; exact hk
  have hrow := row_set h2 (g := g3) rfl (j := k * 6 + 4) (by rw [axflat_length, List.length_set]; omega) (.slice wa x.a.writes.length wc)
  rw [axflat_set (x' := ⟨x'.a, x'.ra, x'.rc, wa, wc⟩) hk' (by omega) (by simp [AX.cells, h1]), List.set_set] at hrow
  exact ⟨⟨x'.a, x'.ra, x'.rc, wa, wc⟩, h1, hrow, fun e => (h3 (by rwa [getD_set_ne hpq] at e)).mv hm, fun e => h4 (by rwa [getD_set_ne hpq] at e), fun _ => hf.mv hm, fun e => (by rw [getD_set_self hq] at e; cases e)⟩

section
variable {o : Oper} {a : Act} {w : World} {K : Act → World → Prop} {Q : Exit → Act → World → Prop} {d : Nat}

theorem lk_idxA {s r g n i c : Nat} (hi : i < n) (hd : o.dst = some d) (ho : o.op = .indexAddr 63 (.tmp s) (.tmp r)) (hs : a.tmps[s]? = some (.slice (some ⟨g, 0, none⟩) n c)) (hr : a.tmps[r]? = some (.int .i64 (i : Int))) (hK : ∀ w', Nu w w' → K ⟨a.tmps.setIfInBounds d (.pointer (some ⟨g, i * 6, none⟩)), a.defers⟩ w') : Oper.wp Try.prog o a w K Q := by
  have hes : a.eval (.tmp s) = .slice (some ⟨g, 0, none⟩) n c := by simp [Act.eval, hs]
  have her : a.eval (.tmp r) = .int .i64 (i : Int) := by simp [Act.eval, hr]
  have hi' : (i : Int) < (n : Int) := by omega
  unfold Oper.wp execOp
  simp only [ho, hd]
  go_simp
  exact hK w (Mv.refl _ _)

theorem lk_fieldA3 {s b f : Nat} (hd : o.dst = some d) (ho : o.op = .fieldAddr 69 (.tmp s) 3) (hs : a.tmps[s]? = some (.pointer (some ⟨b, f, none⟩))) (hK : ∀ w', Nu w w' → K ⟨a.tmps.setIfInBounds d (.pointer (some ⟨b, f + 3, none⟩)), a.defers⟩ w') : Oper.wp Try.prog o a w K Q := by
  have he : a.eval (.tmp s) = .pointer (some ⟨b, f, none⟩) := by simp [Act.eval, hs]
  unfold Oper.wp execOp
  simp only [ho, he, hd]
  go_simp
  exact hK w (Mv.refl _ _)
theorem lk_fieldA4 {s b f : Nat} (hd : o.dst = some d) (ho : o.op = .fieldAddr 69 (.tmp s) 4) (hs : a.tmps[s]? = some (.pointer (some ⟨b, f, none⟩))) (hK : ∀ w', Nu w w' → K ⟨a.tmps.setIfInBounds d (.pointer (some ⟨b, f + 4, none⟩)), a.defers⟩ w') : Oper.wp Try.prog o a w K Q := by
  have he : a.eval (.tmp s) = .pointer (some ⟨b, f, none⟩) := by simp [Act.eval, hs]
  unfold Oper.wp execOp
  simp only [ho, he, hd]
  go_simp
  exact hK w (Mv.refl _ _)

theorem lk_loadI {s b f : Nat} {v : Value} (hd : o.dst = some d) (ho : o.op = .load 25 (.tmp s)) (hs : a.tmps[s]? = some (.pointer (some ⟨b, f, none⟩))) (h0 : w.cell? ⟨b, f, none⟩ = some v) (hK : ∀ w', Nu w w' → K ⟨a.tmps.setIfInBounds d v, a.defers⟩ w') : Oper.wp Try.prog o a w K Q := by
  have he : a.eval (.tmp s) = .pointer (some ⟨b, f, none⟩) := by simp [Act.eval, hs]
  unfold Oper.wp execOp
  simp only [ho, he, hd]
  go_simp
  exact hK w (Mv.refl _ _)

theorem lk_clone {s B cap : Nat} {ao : Option Addr} {xs : List Int} (hd : o.dst = some d) (ho : o.op = .call { callee := .value (.func 23), args := #[.tmp s], argTypes := #[25] }) (hs : a.tmps[s]? = some (.slice ao xs.length cap)) (hx : IntsAt w B ao xs)
    (hK : ∀ w' ao' cap', Nu w w' → OwnI w' w.heap.size ao' cap' xs → K ⟨a.tmps.setIfInBounds d (.slice ao' xs.length cap'), a.defers⟩ w') : Oper.wp Try.prog o a w K Q := by
  have he : a.eval (.tmp s) = .slice ao xs.length cap := by simp [Act.eval, hs]
  unfold Oper.wp execOp
  simp only [ho, hd]
  go_simp
  refine Calls.mono (CloneI_any w B ao cap xs hx) ?_
  rintro e w' ⟨hm, ao', cap', rfl, hown⟩
  exact hK w' ao' cap' hm hown

theorem lk_storeI {s r b f : Nat} {cs : Array Value} {t : TypeId} {ao : Option Addr} {n c : Nat} (hd : o.dst = none) (ho : o.op = .store 25 (.tmp s) (.tmp r)) (hs : a.tmps[s]? = some (.pointer (some ⟨b, f, none⟩))) (hr : a.tmps[r]? = some (.slice ao n c)) (hb : w.heap[b]? = some (.cells cs t (0, 0))) (hf : f < cs.size)
    (hK : K a (w.setCell ⟨b, f, none⟩ (.slice ao n c))) : Oper.wp Try.prog o a w K Q := by
  have hes : a.eval (.tmp s) = .pointer (some ⟨b, f, none⟩) := by simp [Act.eval, hs]
  have her : a.eval (.tmp r) = .slice ao n c := by simp [Act.eval, hr]
  have d0 := cell_blk hb f
  rw [Array.getElem?_eq_getElem hf] at d0
  have f0 := free_blk hb f
  unfold Oper.wp execOp
  simp only [ho, hd, hes, her]
  go_simp
  exact hK

end

end Go.Proofs.Ytcpgpiokjghcnaa
/-
  A graph's copy: the program's graphOf.
-/
set_option linter.unusedVariables false
set_option linter.unusedSimpArgs false
namespace Go.Proofs.Ytcpgpiokjghcnaa
open Go.RowKit

theorem act_eq' {a : Act} {t : Array Value} {d : List Deferred} (h : a.tmps = t) (hd : a.defers = d) : a = ⟨t, d⟩ := by
  cases a
  simp_all

theorem GCp.step {wr w3 wk w9 : World} {ao3 : Option Addr} {g3 c3 : Nat} {xs0 axs : List AX} {k H : Nat} {x' : AX} (h : GCp wr w3 wk (some ⟨g3, 0, none⟩) c3 xs0 axs k) (hk : k < axs.length) (hm : Mv (· = g3) wk w9) (hH : H = wk.heap.size) (hx : x'.a = axs[k].a) (hrow : w9.ownsRow wr.heap.size 69 6 (.slice (some ⟨g3, 0, none⟩) xs0.length c3) xs0.length (axflat (axs.set k x')))
    (hr : Fr w9 H g3 x'.ra x'.rc x'.a.reads) (hw : Fr w9 H g3 x'.wa x'.wc x'.a.writes) : GCp wr w3 w9 (some ⟨g3, 0, none⟩) c3 xs0 (axs.set k x') (k + 1) := by
  subst hH
  have hwk : wr.heap.size ≤ wk.heap.size := by
    have := (row_blk h.row (k := g3) rfl)
    omega
  obtain ⟨_, _, cs3, hc3⟩ := row_blk h.row (k := g3) rfl
  have hZ : ∀ b, ZI wr.heap.size wk b → ¬ b = g3 := fun b ⟨_, cs, hc⟩ e => by
    rw [e, hc3] at hc
    simp at hc
  have hZ' : ∀ b, ZI wr.heap.size wk b → ZI wr.heap.size w9 b := fun b hb => by
    obtain ⟨h1, cs, hc⟩ := hb
    exact ⟨h1, cs, hm.heap hc (hZ b ⟨h1, cs, hc⟩)⟩
  refine ⟨by rw [List.length_set]; exact h.len, ?_, hrow, fun j hj hj' hkj => ?_, fun j hj hjk => ?_, h.mv.trans hm (fun x hx => .inl (by rw [hx]; rfl))⟩
  · rw [List.map_set, hx, ← List.getElem_map AX.a (h := by simpa using hk), List.set_getElem_self, h.eq]
  · rw [List.getElem_set_ne (by omega)]
    exact h.old j (by rwa [List.length_set] at hj) hj' (by omega)
  · have hj2 : j < axs.length := by rwa [List.length_set] at hj
    by_cases hjk' : j = k
    · subst hjk'
      rw [List.getElem_set_self]
      refine ⟨hr.1.z (fun a hp ha => ?_), hw.1.z (fun a hp ha => ?_)⟩
      · rcases hr.1.row with h0 | ⟨g, cs, hg, hh, hc, _⟩
        · omega
        · rw [hg] at ha; cases ha; exact ⟨Nat.le_trans hwk hh, cs, hc⟩
      · rcases hw.1.row with h0 | ⟨g, cs, hg, hh, hc, _⟩
        · omega
        · rw [hg] at ha; cases ha; exact ⟨Nat.le_trans hwk hh, cs, hc⟩
    · rw [List.getElem_set_ne (fun e => hjk' e.symm)]
      exact (h.new j hj2 (by omega)).mv hm hZ hZ'

set_option maxHeartbeats 8000000 in
set_option maxRecDepth 40000 in
theorem graphOf_any (w : World) (ao : Option Addr) (cap : Nat) (ns : List Node) (h : NodesAt w w.heap.size ao ns) (hm : mayN ns = true) : Calls Try.prog 12 #[.agg #[.slice ao ns.length cap]] w fun e w' => Nu w w' ∧ ∃ gb g nc rb nxs, e = .returned (.pointer (some ⟨gb, 0, none⟩)) ∧ GraphIs w' (fun b => w.heap.size ≤ b ∧ b < w'.heap.size) gb ns g nc rb nxs := by
  have hmm : (1 ≤ ns.length ∧ ns.length ≤ 20000) ∧ ∀ x ∈ ns, x.arcs.length ≤ 262144 := by
    simp only [mayN, Bool.and_eq_true, decide_eq_true_eq] at hm
    refine ⟨hm.1.1, fun x hx => ?_⟩
    obtain ⟨i, hi, rfl⟩ := List.mem_iff_getElem.1 hx
    have h1 := arcsIn_le ns (i + 1)
    rw [arcsIn_take ns i hi] at h1
    have := hm.1.2
    omega
  have HMM := hid hmm
  have HNS : Hid (NodesAt w w.heap.size ao ns) := h
  have hl1 := hmm.1.1
  have hl2 := hmm.1.2
  have hl3 : (ns.length : Int) ≤ 20000 := by omega
  clear h hm hmm
  go_enter Try.func12, Try.ntmps12
  go_upto_region 1 with fail
  have HN1 : Hid (Nu w (w.alloc (.cells #[.slice ao ns.length cap] 24))) := Mv.alloc _ _ _
  have HB1 : Hid ((w.alloc (.cells #[.slice ao ns.length cap] 24)).cell? ⟨w.heap.size, 0, none⟩ = some (.slice ao ns.length cap)) := cell_blk (heap_alloc_new w _) 0
  have HZ1 : Hid (w.heap.size ≤ (w.alloc (.cells #[.slice ao ns.length cap] 24)).heap.size) := HN1.out.size
  generalize w.alloc (.cells #[.slice ao ns.length cap] 24) = w1 at *
  have c1 := HB1.out
  obtain ⟨nxs0, he0, hlen0, hrow0, hax0⟩ := (HNS.out.below HN1.out.nu_below (Nat.le_refl _)).nxs
  rcases hrow0 with h0 | ⟨b, off, rfl, hb, hit0⟩
  · omega
  have HIT := hid hit0
  have HAX := hid hax0
  have HEQ := hid he0
  have HLN := hid hlen0
  clear hit0 hax0 he0 hlen0
  go_upto_region 2 with (go_at_call 21; have hcl := CloneN_any w1 b off cap nxs0 HIT.out (by rw [HLN.out]; exact hl1) (by rw [HLN.out]; exact hl2); rw [HLN.out] at hcl; refine hcl.mono ?_; rintro e w2 ⟨hn2, g, nc, rfl, hown2⟩; have HN2 := hid hn2; have HOW2 := hid hown2; clear hcl hn2 hown2)
  clear c1
  have HGO0 : Hid (GO w1 w2 g nc ns 0 nxs0) := ⟨HEQ.out, HOW2.out, fun x hx => (HAX.out x hx).1, fun j hj _ => by
    have := (HAX.out _ (List.getElem_mem hj)).2
    exact this.below ((HN2.out.nu_below).mono HZ1.out) HZ1.out, fun j hj h => absurd h (by omega), HN2.out⟩
  clear HIT HAX HEQ HOW2
  go_wp2
  go_loopw [12] (fun iv wr => ∃ (i : Nat) (nxs : List NX), i ≤ ns.length ∧ iv = .int .i64 (i : Int) ∧ Hid (GO w1 wr g nc ns i nxs)) (fun iv _ => ns.length - (intOf iv).toNat)
  case atStart => exact ⟨0, nxs0, Nat.zero_le _, rfl, HGO0.out⟩
  case round =>
    obtain ⟨i, nxs, hi, rfl, HGO⟩ := hrel
    rename World => V0
    rcases Nat.lt_or_ge i ns.length with hlt | hge
    · have hlt' : (i : Int) < (ns.length : Int) := by omega
      have HLT : Hid (i < ns.length) := hlt
      have hnl : nxs.length = ns.length := by rw [← HGO.out.eq, List.length_map]
      have hlx : i < nxs.length := by rw [hnl]; exact hlt
      have hrw := HGO.out.row
      rw [← hnl] at hrw
      have c0 := (nxrow_at hrw (g := g) rfl i hlx).c0
      have HXO : Hid (ArcsO V0 w1.heap.size nxs[i].vo nxs[i].xs) := HGO.out.old i hlx (Nat.le_refl _)
      have HXL : Hid (nxs[i].xs.length ≤ 262144) := by
        have h1 := congrArg List.length (HGO.out.ax _ (List.getElem_mem hlx))
        rw [List.length_map] at h1
        show nxs[i].xs.length ≤ 262144
        rw [h1]
        refine HMM.out.2 _ ?_
        rw [← HGO.out.eq]
        exact List.mem_map.2 ⟨_, List.getElem_mem hlx, rfl⟩
      have HST : Hid (∀ (w3 wk : World) (ao3 : Option Addr) (c3 : Nat) (axs : List AX), Nu V0 w3 → Mv (fun b => (Value.slice ao3 axs.length c3).ownBlock = some b) w3 wk → wk.ownsRow V0.heap.size 69 6 (.slice ao3 axs.length c3) axs.length (axflat axs) → axs.map AX.a = nxs[i].xs.map AX.a → (∀ x ∈ axs, AXZ wk (ZI V0.heap.size wk) x) → ∃ nxs', GO w1 (wk.setCell ⟨g, i * 5, none⟩ (.slice ao3 axs.length c3)) g nc ns (i + 1) nxs') := fun w3 wk ao3 c3 axs h3 hm hrow heq hz => ⟨_, HGO.out.step hlx h3 hm hrow heq hz⟩
      have HGB : Hid (w1.heap.size ≤ g ∧ g < V0.heap.size ∧ ∃ cs, V0.heap[g]? = some (.cells cs 65 (0, 0)) ∧ i * 5 < cs.size) := by
        rcases HGO.out.row.2 with ⟨hv, _⟩ | ⟨g', cap', cur, hv, h1, h2, h3, h4, h5, h6⟩
        · simp at hv
        · simp only [Value.slice.injEq, Option.some.injEq, Addr.mk.injEq] at hv
          obtain ⟨⟨rfl, _⟩, _⟩ := hv
          exact ⟨h1, lt_of_block h2, cur, h2, by omega⟩
      generalize hxv : nxs[i].vo = vo at *
      generalize hxc : nxs[i].vc = vc at *
      generalize hxx : nxs[i].xs = xs0 at *
      clear hrw hnl hlt hxv hxc hxx hlx
      go_upto_region 6 with (go_at_call 22; refine (CloneA_any _ _ vo vc xs0 HXO.out HXL.out).mono ?_; rintro e w3 ⟨hn3, ao3, c3, rfl, hown3⟩; have HN3 := hid hn3; have HOW3 := hid hown3; clear hn3 hown3)
      clear c0
      have hxl : (xs0.length : Int) ≤ 262144 := by have := HXL.out; omega
      have HGI0 : Hid (GCp V0 w3 w3 ao3 c3 xs0 xs0 0) := ⟨rfl, rfl, HOW3.out, fun j hj hj' _ => rfl, fun j hj h => absurd h (by omega), Mv.refl _ _⟩
      go_wp2
      go_loopw [23] (fun kv wk => ∃ (k : Nat) (axs : List AX), k ≤ xs0.length ∧ kv = .int .i64 (k : Int) ∧ Hid (GCp V0 w3 wk ao3 c3 xs0 axs k)) (fun kv _ => xs0.length - (intOf kv).toNat)
      case atStart => exact ⟨0, xs0, Nat.zero_le _, rfl, HGI0.out⟩
      case round =>
        obtain ⟨k, axs, hk, rfl, HGI⟩ := hrel
        rcases Nat.lt_or_ge k xs0.length with hlt2 | hge2
        · have hlt2' : (k : Int) < (xs0.length : Int) := by omega
          have HLT2 : Hid (k < xs0.length) := hlt2
          obtain ⟨g3, rfl⟩ : ∃ g3, ao3 = some ⟨g3, 0, none⟩ := by
            rcases HGI.out.row.2 with ⟨_, hn⟩ | ⟨g3, _, _, hv, _⟩
            · omega
            · simp only [Value.slice.injEq] at hv
              exact ⟨g3, hv.1⟩
          have hka : k < axs.length := by rw [HGI.out.len]; exact hlt2
          have hxk := HGI.out.old k hka hlt2 (Nat.le_refl _)
          have HRD : Hid (∀ W : World, Below w1.heap.size V0 W → IntsAt W w1.heap.size axs[k].ra axs[k].a.reads ∧ IntsAt W w1.heap.size axs[k].wa axs[k].a.writes) := fun W hW => by
            rw [hxk]
            have := HXO.out.rd _ (List.getElem_mem hlt2)
            exact ⟨this.1.below hW (Nat.le_refl _), this.2.below hW (Nat.le_refl _)⟩
          have HSET : Hid (axs.set k axs[k] = axs) := List.set_getElem_self hka
          have HGS := hid (fun (w9 : World) (x' : AX) => HGI.out.step (ao3 := none) (w9 := w9) (H := wr.heap.size) (x' := x') hka)
          have HBL : Hid (Below w1.heap.size V0 wr ∧ g3 < wr.heap.size ∧ w1.heap.size ≤ wr.heap.size ∧ w1.heap.size ≤ g3) := by
            have h1 := (row_blk HGI.out.row (k := g3) rfl)
            have h2 : Nu V0 wr := HN3.out.trans HGI.out.mv (fun x hx => .inr ((row_blk HGI.out.row hx).1))
            have h3 := HGO.out.nu.size
            have h4 := h2.size
            exact ⟨h2.nu_below.mono h3, h1.2.1, by omega, by omega⟩
          generalize hx : axs[k] = x at *
          have HKA := hid hka
          clear hlt2 hka hxk hx
          go_upto_region 9 with fail
          rename_i KC hKC
          refine wp_regJ (· = g3) (R9 g3 xs0.length c3 k x wr.heap.size) (J9 V0.heap.size wr.heap.size g3 xs0.length c3 axs k x 18 21) R9.mv ?hj (by kernel_rfl) (by kernel_rfl) ?h0 ?step ?store ?last
          case hj =>
            intro l i o d w w' ho hd hm hJ
            exact hJ.nu hm (fun e => by subst e; cases ho; cases hd) (fun e => by subst e; cases ho; cases hd)
          case h0 =>
            refine ⟨x, rfl, ?_, fun e => absurd e (by rw [getD_none]; simp), fun _ => ⟨rfl, rfl⟩, fun e => absurd e (by rw [getD_none]; simp), fun _ => ⟨rfl, rfl⟩⟩
            rw [HSET.out]
            exact row_mv (Mv.drew (fun _ => False) _) HGI.out.row (fun _ _ => id)
          case step =>
            intro l i o d a w' ho hd hl haft hcl hmv hJ hfr had K hK
            have hi : i < 22 := (Array.getElem?_eq_some_iff.1 ho).1
            have f5 := hfr 5 (by kernel_rfl)
            have f6 := hfr 6 (by kernel_rfl)
            have hbl : Below w1.heap.size V0 w' := HBL.out.1.trans (hmv.below HBL.out.2.2.1 (fun b hb => by subst hb; exact HBL.out.2.2.2))
            have hcp : ∀ {W : World} {ao' : Option Addr} {cap' : Nat} {ys : List Int}, OwnI W w'.heap.size ao' cap' ys → Fr W wr.heap.size g3 ao' cap' ys := fun {W ao' cap' ys} h => by
              refine ⟨h.mv (Mv.refl (fun _ => False) _) (fun _ _ _ => id) hmv.size, fun a hp ha => ?_⟩
              rcases h.row with h0 | ⟨g', cs, hg', hh, _⟩
              · omega
              · rw [hg'] at ha; cases ha
                have := hmv.size
                have := HBL.out.2.1
                show g' ≠ g3
                omega
            have : i = 0 ∨ i = 1 ∨ i = 2 ∨ i = 3 ∨ i = 4 ∨ i = 5 ∨ i = 6 ∨ i = 7 ∨ i = 8 ∨ i = 9 ∨ i = 10 ∨ i = 11 ∨ i = 12 ∨ i = 13 ∨ i = 14 ∨ i = 15 ∨ i = 16 ∨ i = 17 ∨ i = 18 ∨ i = 19 ∨ i = 20 ∨ i = 21 := by omega
            rcases this with rfl | rfl | rfl | rfl | rfl | rfl | rfl | rfl | rfl | rfl | rfl | rfl | rfl | rfl | rfl | rfl | rfl | rfl | rfl | rfl | rfl | rfl <;> cases ho <;> cases hd
            · exact ite_yes (want_none rfl) (lk_move rfl rfl f5 (fun w' hm => hK w' _ hm rfl))
            · exact ite_yes (want_none rfl) (lk_move rfl rfl f6 (fun w' hm => hK w' _ hm rfl))
            · exact ite_yes (want_none rfl) (lk_move rfl rfl f5 (fun w' hm => hK w' _ hm rfl))
            · exact ite_yes (want_none rfl) (lk_move rfl rfl f6 (fun w' hm => hK w' _ hm rfl))
            · exact ite_yes (want_none rfl) (lk_move rfl rfl f5 (fun w' hm => hK w' _ hm rfl))
            · exact ite_yes (want_none rfl) (lk_move rfl rfl f6 (fun w' hm => hK w' _ hm rfl))
            · obtain ⟨⟨_, h0, rfl⟩, ⟨_, h1, rfl⟩, _⟩ := had; exact ite_yes (want_none rfl) (lk_idxA HLT2.out rfl rfl h0 h1 (fun w' hm => hK w' _ hm rfl))
            · obtain ⟨⟨_, h0, rfl⟩, _⟩ := had; exact ite_yes (want_none rfl) (lk_fieldA3 rfl rfl h0 (fun w' hm => hK w' _ hm rfl))
            · obtain ⟨⟨_, h0, rfl⟩, _⟩ := had
              obtain ⟨x', hxa, hrow, _, h18, _⟩ := hJ
              have hnot : l.getD 18 false = false := by
                cases hc : l.getD 18 false with
                | false => rfl
                | true =>
                  have h9 := hcl 18 _ rfl hc ⟨9, .data⟩ (by simp) rfl
                  have h8 := hcl 9 _ rfl h9 ⟨8, .data⟩ (by simp) rfl
                  rw [hl] at h8
                  cases h8
              obtain ⟨e1, e2⟩ := h18 hnot
              have hl' : (axs.set k x').length = xs0.length := by rw [List.length_set]; exact HGI.out.len
              rw [← hl'] at hrow
              have hat := (axrow_at hrow (g := g3) rfl k (by rw [hl']; exact HLT2.out)).c3
              rw [List.getElem_set_self, e1, e2, hxa] at hat
              exact ite_yes (want_none rfl) (lk_loadI rfl rfl h0 hat (fun w' hm => hK w' _ hm rfl))
            · obtain ⟨⟨_, h0, rfl⟩, _⟩ := had; exact ite_yes (want_none rfl) (lk_clone rfl rfl h0 (HRD.out _ hbl).1 (fun w' ao' cap' hm hown => hK w' _ hm ⟨ao', cap', rfl, hcp hown⟩))
            · exact ite_yes (want_none rfl) (lk_move rfl rfl f5 (fun w' hm => hK w' _ hm rfl))
            · exact ite_yes (want_none rfl) (lk_move rfl rfl f6 (fun w' hm => hK w' _ hm rfl))
            · obtain ⟨⟨_, h0, rfl⟩, ⟨_, h1, rfl⟩, _⟩ := had; exact ite_yes (want_none rfl) (lk_idxA HLT2.out rfl rfl h0 h1 (fun w' hm => hK w' _ hm rfl))
            · obtain ⟨⟨_, h0, rfl⟩, _⟩ := had; exact ite_yes (want_none rfl) (lk_fieldA4 rfl rfl h0 (fun w' hm => hK w' _ hm rfl))
            · obtain ⟨⟨_, h0, rfl⟩, _⟩ := had
              obtain ⟨x', hxa, hrow, _, _, _, h21⟩ := hJ
              have hnot : l.getD 21 false = false := by
                cases hc : l.getD 21 false with
                | false => rfl
                | true =>
                  have h15 := hcl 21 _ rfl hc ⟨15, .data⟩ (by simp) rfl
                  have h14 := hcl 15 _ rfl h15 ⟨14, .data⟩ (by simp) rfl
                  rw [hl] at h14
                  cases h14
              obtain ⟨e1, e2⟩ := h21 hnot
              have hl' : (axs.set k x').length = xs0.length := by rw [List.length_set]; exact HGI.out.len
              rw [← hl'] at hrow
              have hat := (axrow_at hrow (g := g3) rfl k (by rw [hl']; exact HLT2.out)).c4
              rw [List.getElem_set_self, e1, e2, hxa] at hat
              exact ite_yes (want_none rfl) (lk_loadI rfl rfl h0 hat (fun w' hm => hK w' _ hm rfl))
            · obtain ⟨⟨_, h0, rfl⟩, _⟩ := had; exact ite_yes (want_none rfl) (lk_clone rfl rfl h0 (HRD.out _ hbl).2 (fun w' ao' cap' hm hown => hK w' _ hm ⟨ao', cap', rfl, hcp hown⟩))
            · obtain ⟨⟨_, h0, rfl⟩, ⟨_, h1, rfl⟩, _⟩ := had; exact ite_yes (want_none rfl) (lk_idxA HLT2.out rfl rfl h0 h1 (fun w' hm => hK w' _ hm rfl))
            · obtain ⟨⟨_, h0, rfl⟩, _⟩ := had; exact ite_yes (want_none rfl) (lk_fieldA3 rfl rfl h0 (fun w' hm => hK w' _ hm rfl))
            · obtain ⟨⟨_, h0, rfl⟩, ⟨_, h1, rfl⟩, _⟩ := had; exact ite_yes (want_none rfl) (lk_idxA HLT2.out rfl rfl h0 h1 (fun w' hm => hK w' _ hm rfl))
            · obtain ⟨⟨_, h0, rfl⟩, _⟩ := had; exact ite_yes (want_none rfl) (lk_fieldA4 rfl rfl h0 (fun w' hm => hK w' _ hm rfl))
          case store =>
            intro l i o a w' ho hd hls haft hcl hmv hJ hfr had K hK
            have hi : i < 22 := (Array.getElem?_eq_some_iff.1 ho).1
            have hcs : ∃ cs, w'.heap[g3]? = some (.cells cs 69 (0, 0)) ∧ k * 6 + 5 < cs.size := by
              obtain ⟨x', _, hrow, _⟩ := hJ
              have := HLT2.out
              rcases hrow.2 with ⟨hv, _⟩ | ⟨g', cap', cur, hv, h1, h2, h3, h4, h5, h6⟩
              · simp at hv
              · simp only [Value.slice.injEq, Option.some.injEq, Addr.mk.injEq] at hv
                obtain ⟨⟨rfl, _⟩, _⟩ := hv
                exact ⟨cur, h2, by omega⟩
            obtain ⟨cs, hcb, hcz⟩ := hcs
            have : i = 0 ∨ i = 1 ∨ i = 2 ∨ i = 3 ∨ i = 4 ∨ i = 5 ∨ i = 6 ∨ i = 7 ∨ i = 8 ∨ i = 9 ∨ i = 10 ∨ i = 11 ∨ i = 12 ∨ i = 13 ∨ i = 14 ∨ i = 15 ∨ i = 16 ∨ i = 17 ∨ i = 18 ∨ i = 19 ∨ i = 20 ∨ i = 21 := by omega
            rcases this with rfl | rfl | rfl | rfl | rfl | rfl | rfl | rfl | rfl | rfl | rfl | rfl | rfl | rfl | rfl | rfl | rfl | rfl | rfl | rfl | rfl | rfl <;> cases ho <;> first | (cases hd; done) | skip
            · obtain ⟨⟨_, h0, rfl⟩, ⟨_, h1, ra, rc, rfl, hf⟩, _⟩ := had
              exact lk_storeI rfl rfl h0 h1 hcb (by omega) (hK _ (Mv.setCell w' ⟨g3, k * 6 + 3, none⟩ _) (hJ.storeP HKA.out (by rw [hls]; decide) (by decide) hf))
            · obtain ⟨⟨_, h0, rfl⟩, ⟨_, h1, ra, rc, rfl, hf⟩, _⟩ := had
              exact lk_storeI rfl rfl h0 h1 hcb (by omega) (hK _ (Mv.setCell w' ⟨g3, k * 6 + 4, none⟩ _) (hJ.storeQ HKA.out (by rw [hls]; decide) (by decide) hf))
          case last =>
            intro l a w9 hls hall hmv hJ hdf hsz hfr htv
            obtain ⟨x', hxa, hrow, h18, _, h21, _⟩ := hJ
            have HX9 : Hid (GCp V0 w3 w9 (some ⟨g3, 0, none⟩) c3 xs0 (axs.set k x') (k + 1)) := by
              have h1 := h18 (hall 18 (by decide))
              have h2 := h21 (hall 21 (by decide))
              rw [← hxa] at h1 h2
              exact HGS.out w9 x' hmv rfl hxa hrow h1 h2
            obtain ⟨v9, t9, ra9, rc9, rfl, _⟩ := htv 9 _ 35 rfl rfl
            obtain ⟨v15, t15, ra15, rc15, rfl, _⟩ := htv 15 _ 41 rfl rfl
            have htm := fill_eqN (vals := fun i => ([.slice (some ⟨g3, 0, none⟩) xs0.length c3, .int .i64 (k : Int), .slice (some ⟨g3, 0, none⟩) xs0.length c3, .int .i64 (k : Int), .slice (some ⟨g3, 0, none⟩) xs0.length c3, .int .i64 (k : Int), .pointer (some ⟨g3, k * 6, none⟩), .pointer (some ⟨g3, k * 6 + 3, none⟩), .slice x.ra x.a.reads.length x.rc, .slice ra9 x.a.reads.length rc9, .slice (some ⟨g3, 0, none⟩) xs0.length c3, .int .i64 (k : Int), .pointer (some ⟨g3, k * 6, none⟩), .pointer (some ⟨g3, k * 6 + 4, none⟩), .slice x.wa x.a.writes.length x.wc, .slice ra15 x.a.writes.length rc15, .pointer (some ⟨g3, k * 6, none⟩), .pointer (some ⟨g3, k * 6 + 3, none⟩), undef, .pointer (some ⟨g3, k * 6, none⟩), .pointer (some ⟨g3, k * 6 + 4, none⟩), undef] : List Value).getD i undef) (by kernel_rfl) hfr (fun i o d hi hd => by
              have hi' : i < 22 := (Array.getElem?_eq_some_iff.1 hi).1
              obtain ⟨v, h, hv⟩ := htv i o d hi hd
              have : i = 0 ∨ i = 1 ∨ i = 2 ∨ i = 3 ∨ i = 4 ∨ i = 5 ∨ i = 6 ∨ i = 7 ∨ i = 8 ∨ i = 9 ∨ i = 10 ∨ i = 11 ∨ i = 12 ∨ i = 13 ∨ i = 14 ∨ i = 15 ∨ i = 16 ∨ i = 17 ∨ i = 18 ∨ i = 19 ∨ i = 20 ∨ i = 21 := by omega
              rcases this with rfl | rfl | rfl | rfl | rfl | rfl | rfl | rfl | rfl | rfl | rfl | rfl | rfl | rfl | rfl | rfl | rfl | rfl | rfl | rfl | rfl | rfl <;> cases hi <;> cases hd <;> first | exact t9 | exact t15 | exact h.trans (congrArg some hv))
            refine hKC _ _ ?_
            rw [act_eq' htm hdf]
            clear htm hdf hsz hfr htv t9 t15 hall h18 h21 hrow hls
            simp only [fill, List.getD_cons_succ, List.getD_cons_zero, List.setIfInBounds_toArray, List.set_cons_succ, List.set_cons_zero]
            go_wp2
            go_roundw
            case rel => exact ⟨k + 1, _, HLT2.out, by go_num, HX9.out⟩
            case measure => have := HLT2.out; simp [intOf]; omega
        · obtain rfl : k = xs0.length := by omega
          have hl := HGI.out.len
          have h2 : Nu V0 wr := HN3.out.trans HGI.out.mv (fun x hx => .inr ((row_blk HGI.out.row hx).1))
          obtain ⟨hg1, hg2, cs, hcs, hcz⟩ := HGB.out
          have hcs2 := h2.heap hcs id
          have d0 := cell_blk hcs2 (i * 5)
          rw [Array.getElem?_eq_getElem hcz] at d0
          have f0 := free_blk hcs2 (i * 5)
          have HNX : Hid (∃ nxs', GO w1 (wr.setCell ⟨g, i * 5, none⟩ (.slice ao3 xs0.length c3)) g nc ns (i + 1) nxs') := by
            have := HST.out w3 wr ao3 c3 axs HN3.out (by rw [hl]; exact HGI.out.mv) (by rw [hl]; exact HGI.out.row) HGI.out.eq (fun x hx => by
              obtain ⟨j, hj, rfl⟩ := List.mem_iff_getElem.1 hx
              exact HGI.out.new j hj (by omega))
            rwa [hl] at this
          generalize cs[i * 5] = old at *
          clear hl h2 hcs hcs2 hcz
          go_wp2
          go_roundw
          case rel =>
            obtain ⟨nxs', hn⟩ := HNX.out
            exact ⟨i + 1, nxs', HLT.out, by go_num, hn⟩
          case measure => have := HLT.out; simp [intOf]; omega
    · obtain rfl : i = ns.length := by omega
      go_wp2
      go_ret
      have hnl : nxs.length = ns.length := by rw [← HGO.out.eq, List.length_map]
      have hn0 : Nu w V0 := mv0 HN1.out HGO.out.nu
      have ha1 : Nu V0 (V0.alloc (.cells #[.int .i64 (ns.length : Int)] 3)) := Mv.alloc _ _ _
      have hr1 := heap_alloc_new V0 (.cells #[.int .i64 (ns.length : Int)] 3)
      have hz1 : (V0.alloc (.cells #[.int .i64 (ns.length : Int)] 3)).heap.size = V0.heap.size + 1 := by simp
      generalize V0.alloc (.cells #[.int .i64 (ns.length : Int)] 3) = V1 at *
      have ha2 : Nu V1 (V1.alloc (.cells #[.slice (some ⟨V0.heap.size, 0, none⟩) 1 1, .slice (some ⟨g, 0, none⟩) ns.length nc] 75)) := Mv.alloc _ _ _
      have hr2 := heap_alloc_new V1 (.cells #[.slice (some ⟨V0.heap.size, 0, none⟩) 1 1, .slice (some ⟨g, 0, none⟩) ns.length nc] 75)
      have hz2 : (V1.alloc (.cells #[.slice (some ⟨V0.heap.size, 0, none⟩) 1 1, .slice (some ⟨g, 0, none⟩) ns.length nc] 75)).heap.size = V1.heap.size + 1 := by simp
      generalize V1.alloc (.cells #[.slice (some ⟨V0.heap.size, 0, none⟩) 1 1, .slice (some ⟨g, 0, none⟩) ns.length nc] 75) = V2 at *
      have hn2 : Nu V0 V2 := mv0 ha1 ha2
      have hsz0 := hn0.size
      have hgb := row_blk HGO.out.row (k := g) rfl
      have hw1 := HZ1.out
      have hrw := HGO.out.row
      rw [← hnl] at hrw
      refine ⟨mv0 hn0 hn2, _, g, nc, V0.heap.size, nxs, rfl, HGO.out.eq, HMM.out.1, ⟨by omega, by omega⟩, ⟨by omega, by omega⟩, ⟨by omega, by omega⟩, (by rw [← hz1]; exact hr2), ha2.heap hr1 id, fun j hj => (nxrow_at hrw (g := g) rfl j hj).mv hn2 id, fun x hx => ⟨HGO.out.ax x hx, ?_⟩⟩
      obtain ⟨j, hj, rfl⟩ := List.mem_iff_getElem.1 hx
      refine (HGO.out.new j hj (by omega)).mv hn2 (fun _ _ => id) (fun b hb => ?_)
      obtain ⟨h1, cs, t, hc, _⟩ := hb
      have := lt_of_block hc
      exact ⟨by omega, by omega⟩

end Go.Proofs.Ytcpgpiokjghcnaa
