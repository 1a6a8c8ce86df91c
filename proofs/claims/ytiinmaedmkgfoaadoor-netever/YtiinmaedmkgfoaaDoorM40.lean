/-
  NWArc, NNode0.
-/
import Derived.Laws.ResultCell
import Derived.Test.YtiinmaedmkgfoaaDoorM38
/-
  An arc out of a move: the program's arc.
-/
set_option linter.unusedVariables false
set_option linter.unusedSimpArgs false
namespace Go.Proofs.YtiinmaedmkgfoaaDoor
open Go.RowKit

section
variable {o : Oper} {a : Act} {w : World} {K : Act → World → Prop} {Q : Exit → Act → World → Prop} {d : Nat}

theorem lk_fieldM0 {s b : Nat} (hd : o.dst = some d) (ho : o.op = .fieldAddr 41 (.tmp s) 0) (hs : a.tmps[s]? = some (.pointer (some ⟨b, 0, none⟩))) (hK : ∀ w', Nu w w' → K ⟨a.tmps.setIfInBounds d (.pointer (some ⟨b, 0, none⟩)), a.defers⟩ w') : Oper.wp Tryd.prog o a w K Q := by
  have he : a.eval (.tmp s) = .pointer (some ⟨b, 0, none⟩) := by simp [Act.eval, hs]
  unfold Oper.wp execOp
  simp only [ho, he, hd]
  go_simp
  exact hK w (Mv.refl _ _)
theorem lk_fieldM5 {s b : Nat} (hd : o.dst = some d) (ho : o.op = .fieldAddr 41 (.tmp s) 5) (hs : a.tmps[s]? = some (.pointer (some ⟨b, 0, none⟩))) (hK : ∀ w', Nu w w' → K ⟨a.tmps.setIfInBounds d (.pointer (some ⟨b, 5, none⟩)), a.defers⟩ w') : Oper.wp Tryd.prog o a w K Q := by
  have he : a.eval (.tmp s) = .pointer (some ⟨b, 0, none⟩) := by simp [Act.eval, hs]
  unfold Oper.wp execOp
  simp only [ho, he, hd]
  go_simp
  exact hK w (Mv.refl _ _)
theorem lk_fieldM8 {s b : Nat} (hd : o.dst = some d) (ho : o.op = .fieldAddr 41 (.tmp s) 8) (hs : a.tmps[s]? = some (.pointer (some ⟨b, 0, none⟩))) (hK : ∀ w', Nu w w' → K ⟨a.tmps.setIfInBounds d (.pointer (some ⟨b, 8, none⟩)), a.defers⟩ w') : Oper.wp Tryd.prog o a w K Q := by
  have he : a.eval (.tmp s) = .pointer (some ⟨b, 0, none⟩) := by simp [Act.eval, hs]
  unfold Oper.wp execOp
  simp only [ho, he, hd]
  go_simp
  exact hK w (Mv.refl _ _)

theorem lk_allocA (hd : o.dst = some d) (ho : o.op = .alloc 122) (hK : K ⟨a.tmps.setIfInBounds d (.pointer (some ⟨w.heap.size, 0, none⟩)), a.defers⟩ (w.alloc (.cells #[.int .i64 0, .int .i64 0, .int .i64 0, .slice none 0 0, .slice none 0 0, .int .u64 0] 122))) : Oper.wp Tryd.prog o a w K Q := by
  unfold Oper.wp execOp
  simp only [ho, hd]
  go_simp
  exact hK

theorem lk_buildA {s0 s2 s5 s3 s4 : Nat} {p b t : Int} {ra wa : Option Addr} {rn rc wn wc : Nat} (hd : o.dst = some d) (ho : o.op = .build 122 #[(0, .tmp s0), (2, .tmp s2), (5, .tmp s5), (3, .tmp s3), (4, .tmp s4)]) (h0 : a.tmps[s0]? = some (.int .i64 p)) (h2 : a.tmps[s2]? = some (.int .i64 b)) (h5 : a.tmps[s5]? = some (.int .u64 t)) (h3 : a.tmps[s3]? = some (.slice ra rn rc)) (h4 : a.tmps[s4]? = some (.slice wa wn wc))
    (hK : ∀ w', Nu w w' → K ⟨a.tmps.setIfInBounds d (.agg #[.int .i64 p, .int .i64 0, .int .i64 b, .slice ra rn rc, .slice wa wn wc, .int .u64 t]), a.defers⟩ w') : Oper.wp Tryd.prog o a w K Q := by
  have e0 : a.eval (.tmp s0) = .int .i64 p := by simp [Act.eval, h0]
  have e2 : a.eval (.tmp s2) = .int .i64 b := by simp [Act.eval, h2]
  have e5 : a.eval (.tmp s5) = .int .u64 t := by simp [Act.eval, h5]
  have e3 : a.eval (.tmp s3) = .slice ra rn rc := by simp [Act.eval, h3]
  have e4 : a.eval (.tmp s4) = .slice wa wn wc := by simp [Act.eval, h4]
  unfold Oper.wp execOp
  simp only [ho, hd]
  go_simp
  exact hK w (Mv.refl _ _)
end

theorem cells6 {w : World} {b : Nat} {t : TypeId} {v0 v1 v2 v3 v4 v5 : Value} (h : w.heap[b]? = some (.cells #[v0, v1, v2, v3, v4, v5] t (0, 0))) : w.cell? ⟨b, 0, none⟩ = some v0 ∧ w.cell? ⟨b, 1, none⟩ = some v1 ∧ w.cell? ⟨b, 2, none⟩ = some v2 ∧ w.cell? ⟨b, 3, none⟩ = some v3 ∧ w.cell? ⟨b, 4, none⟩ = some v4 ∧ w.cell? ⟨b, 5, none⟩ = some v5 :=
  ⟨cell_blk h 0, cell_blk h 1, cell_blk h 2, cell_blk h 3, cell_blk h 4, cell_blk h 5⟩
theorem frees6 {w : World} {b : Nat} {t : TypeId} {cs : Array Value} (h : w.heap[b]? = some (.cells cs t (0, 0))) : w.frozen? ⟨b, 0, none⟩ = false ∧ w.frozen? ⟨b, 1, none⟩ = false ∧ w.frozen? ⟨b, 2, none⟩ = false ∧ w.frozen? ⟨b, 3, none⟩ = false ∧ w.frozen? ⟨b, 4, none⟩ = false ∧ w.frozen? ⟨b, 5, none⟩ = false :=
  ⟨free_blk h 0, free_blk h 1, free_blk h 2, free_blk h 3, free_blk h 4, free_blk h 5⟩
theorem set6 {w : World} {b : Nat} {t : TypeId} {z0 z1 z2 z3 z4 z5 v0 v1 v2 v3 v4 v5 : Value} (h : w.heap[b]? = some (.cells #[z0, z1, z2, z3, z4, z5] t (0, 0))) :
    ((((((w.setCell ⟨b, 0, none⟩ v0).setCell ⟨b, 1, none⟩ v1).setCell ⟨b, 2, none⟩ v2).setCell ⟨b, 3, none⟩ v3).setCell ⟨b, 4, none⟩ v4).setCell ⟨b, 5, none⟩ v5).heap[b]? = some (.cells #[v0, v1, v2, v3, v4, v5] t (0, 0)) ∧ Mv (· = b) w ((((((w.setCell ⟨b, 0, none⟩ v0).setCell ⟨b, 1, none⟩ v1).setCell ⟨b, 2, none⟩ v2).setCell ⟨b, 3, none⟩ v3).setCell ⟨b, 4, none⟩ v4).setCell ⟨b, 5, none⟩ v5) := by
  have h0 := setCell_blk (i := 0) (u := v0) h
  have h1 := setCell_blk (i := 1) (u := v1) h0
  have h2 := setCell_blk (i := 2) (u := v2) h1
  have h3 := setCell_blk (i := 3) (u := v3) h2
  have h4 := setCell_blk (i := 4) (u := v4) h3
  have h5 := setCell_blk (i := 5) (u := v5) h4
  simp only [List.setIfInBounds_toArray, List.set_cons_succ, List.set_cons_zero] at h5
  refine ⟨h5, ?_⟩
  have m (W : World) (i : Nat) (u : Value) : Mv (· = b) W (W.setCell ⟨b, i, none⟩ u) := Mv.setCell W ⟨b, i, none⟩ u
  have t2 {A B C : World} (h : Mv (· = b) A B) (k : Mv (· = b) B C) : Mv (· = b) A C := h.trans k (fun _ h => .inl h)
  exact t2 (t2 (t2 (t2 (t2 (m _ _ _) (m _ _ _)) (m _ _ _)) (m _ _ _)) (m _ _ _)) (m _ _ _)

section
variable {o : Oper} {a : Act} {w : World} {K : Act → World → Prop} {Q : Exit → Act → World → Prop} {d : Nat}
set_option maxHeartbeats 2000000 in
theorem lk_storeA {s r nb : Nat} {z0 z1 z2 z3 z4 z5 : Value} {p k b t : Int} {ra wa : Option Addr} {rn rc wn wc : Nat} (hd : o.dst = none) (ho : o.op = .store 122 (.tmp s) (.tmp r)) (hs : a.tmps[s]? = some (.pointer (some ⟨nb, 0, none⟩))) (hr : a.tmps[r]? = some (.agg #[.int .i64 p, .int .i64 k, .int .i64 b, .slice ra rn rc, .slice wa wn wc, .int .u64 t])) (hb : w.heap[nb]? = some (.cells #[z0, z1, z2, z3, z4, z5] 122 (0, 0)))
    (hK : ∀ w', w'.heap[nb]? = some (.cells #[.int .i64 p, .int .i64 k, .int .i64 b, .slice ra rn rc, .slice wa wn wc, .int .u64 t] 122 (0, 0)) → Mv (· = nb) w w' → K a w') : Oper.wp Tryd.prog o a w K Q := by
  have hes : a.eval (.tmp s) = .pointer (some ⟨nb, 0, none⟩) := by simp [Act.eval, hs]
  have her : a.eval (.tmp r) = .agg #[.int .i64 p, .int .i64 k, .int .i64 b, .slice ra rn rc, .slice wa wn wc, .int .u64 t] := by simp [Act.eval, hr]
  obtain ⟨d0, d1, d2, d3, d4, d5⟩ := cells6 hb
  obtain ⟨f0, f1, f2, f3, f4, f5⟩ := frees6 hb
  unfold Oper.wp execOp
  simp only [ho, hd, hes, her]
  go_simp
  obtain ⟨h1, h2⟩ := set6 (v0 := .int .i64 p) (v1 := .int .i64 k) (v2 := .int .i64 b) (v3 := .slice ra rn rc) (v4 := .slice wa wn wc) (v5 := .int .u64 t) hb
  exact hK _ h1 h2
end

def RA (xb H : Nat) (x : X) : Nat → World → Value → Prop
  | 0, _, v => v = .pointer (some ⟨xb, 0, none⟩)
  | 1, _, v => v = .pointer (some ⟨xb, 0, none⟩)
  | 2, _, v => v = .pointer (some ⟨xb, 0, none⟩)
  | 3, _, v => v = .int .i64 x.m.proc
  | 4, _, v => v = .pointer (some ⟨xb, 0, none⟩)
  | 5, _, v => v = .pointer (some ⟨xb, 0, none⟩)
  | 6, _, v => v = .pointer (some ⟨xb, 5, none⟩)
  | 7, _, v => v = .int .i64 x.m.bad
  | 8, _, v => v = .pointer (some ⟨xb, 0, none⟩)
  | 9, _, v => v = .pointer (some ⟨xb, 0, none⟩)
  | 10, _, v => v = .pointer (some ⟨xb, 8, none⟩)
  | 11, _, v => v = .int .u64 x.m.turns
  | 12, _, v => v = .pointer (some ⟨xb, 0, none⟩)
  | 13, _, v => v = .pointer (some ⟨xb, 0, none⟩)
  | 14, _, v => v = .pointer (some ⟨xb, 6, none⟩)
  | 15, _, v => v = .slice x.ra x.m.reads.length x.rc
  | 16, w, v => ∃ ra rc, v = .slice ra x.m.reads.length rc ∧ OwnI w H ra rc x.m.reads
  | 17, _, v => v = .pointer (some ⟨xb, 0, none⟩)
  | 18, _, v => v = .pointer (some ⟨xb, 0, none⟩)
  | 19, _, v => v = .pointer (some ⟨xb, 7, none⟩)
  | 20, _, v => v = .slice x.wa x.m.writes.length x.wc
  | 21, w, v => ∃ ra rc, v = .slice ra x.m.writes.length rc ∧ OwnI w H ra rc x.m.writes
  | 22, w, v => ∃ ra rc wa wc, v = .agg #[.int .i64 x.m.proc, .int .i64 0, .int .i64 x.m.bad, .slice ra x.m.reads.length rc, .slice wa x.m.writes.length wc, .int .u64 x.m.turns] ∧ OwnI w H ra rc x.m.reads ∧ OwnI w H wa wc x.m.writes
  | 23, w, v => ∃ nb, v = .pointer (some ⟨nb, 0, none⟩) ∧ w.heap[nb]? = some (.cells #[.int .i64 0, .int .i64 0, .int .i64 0, .slice none 0 0, .slice none 0 0, .int .u64 0] 122 (0, 0)) ∧ H ≤ nb
  | _, _, v => v = undef
theorem RA.nu {xb H : Nat} {x : X} : ∀ (i : Nat) (w w' : World) (v : Value), Nu w w' → RA xb H x i w v → RA xb H x i w' v := by
  intro i w w' v hn h
  unfold RA at h ⊢
  split <;> simp only at h <;> first
    | exact h
    | (obtain ⟨nb, h1, h2, h3⟩ := h; exact ⟨nb, h1, hn.heap h2 id, h3⟩)
    | (obtain ⟨ra, rc, h1, h2⟩ := h; exact ⟨ra, rc, h1, h2.mv hn (fun _ _ _ => id) (Nat.le_refl _)⟩)
    | (obtain ⟨ra, rc, wa, wc, h1, h2, h3⟩ := h; exact ⟨ra, rc, wa, wc, h1, h2.mv hn (fun _ _ _ => id) (Nat.le_refl _), h3.mv hn (fun _ _ _ => id) (Nat.le_refl _)⟩)

def AX.val (x : AX) : Value := .agg #[.int .i64 x.a.proc, .int .i64 x.a.to, .int .i64 x.a.bad, .slice x.ra x.a.reads.length x.rc, .slice x.wa x.a.writes.length x.wc, .int .u64 x.a.turns]
/-- An arc's numbers are its owner's. -/
def AXOwn (w : World) (H : Nat) (x : AX) : Prop := OwnI w H x.ra x.rc x.a.reads ∧ OwnI w H x.wa x.wc x.a.writes

/-- What arc answers. -/
def ArcOut (H wb mb : Nat) (T : TypeId) (r0 : Value) (most : Int) (so : Option Addr) (sc : Nat) (ss : List ByteArray) (cnt : Nat) (m : Mov) (W : World) (e : Ending) (W' : World) : Prop :=
  (∃ ax : AX, ∃ k : Nat, (if m.bad = 0 then plc ss m.to = some k else k = 0) ∧ e = .returned (.tuple #[ax.val, .bool true]) ∧ ax.a = arcOf m k ∧ AXOwn W' W.heap.size ax ∧ Nu W W') ∨
  (m.bad = 0 ∧ plc ss m.to = none ∧ (ss.length : Int) = most ∧ (∃ ax : AX, e = .returned (.tuple #[ax.val, .bool false])) ∧ Nu W W') ∨
  (m.bad = 0 ∧ plc ss m.to = none ∧ ¬ (ss.length : Int) = most ∧ ∃ ax : AX, e = .returned (.tuple #[ax.val, .bool true]) ∧ ax.a = arcOf m ss.length ∧ AXOwn W' W.heap.size ax ∧ ∃ so' sc', WK H W' wb mb T r0 most so' sc' (ss ++ [m.to]) cnt ∧ Mv (WS wb mb so ss.length sc) W W' ∧ ∀ b, WS wb mb so' (ss ++ [m.to]).length sc' b → WS wb mb so ss.length sc b ∨ W.heap.size ≤ b)

theorem results_row_tmp {fn : Func} {p u : Tmp} {ty : TypeId} (h : fn.results = #[.cell p ty, .tmp u]) (tmps : Array Value) (w : World) (g : Nat) (cs : Array Value) (hp : tmps.getD p undef = .pointer (some ⟨g, 0, none⟩)) (hl : (loadVar ty ⟨g, 0, none⟩).run Tryd.prog w = .ok (.agg cs) w) :
    (results fn tmps).run Tryd.prog w = .ok (.tuple #[.agg cs, tmps.getD u undef]) w := by
  rw [results_cell_tmp h, hp]
  simp [asAddr, hl, Result.andThen]

theorem MeetOut.mid {H wb mb : Nat} {T : TypeId} {r0 : Value} {most : Int} {so : Option Addr} {sc : Nat} {ss : List ByteArray} {cnt : Nat} {s : ByteArray} {W W' : World} {e : Ending} (h : MeetOut H wb mb T r0 most so sc ss cnt s W e W') : ∃ kk okb, e = .returned (.tuple #[.int .i64 kk, .bool okb]) ∧ Mv (WS wb mb so ss.length sc) W W' := by
  rcases h with ⟨k, _, rfl, hn⟩ | ⟨_, _, rfl, hn⟩ | ⟨_, _, rfl, _, _, _, hm, _⟩
  · exact ⟨_, _, rfl, hn.mono (fun _ h => h.elim)⟩
  · exact ⟨_, _, rfl, hn.mono (fun _ h => h.elim)⟩
  · exact ⟨_, _, rfl, hm⟩

theorem arc_fin {H wb mb : Nat} {T : TypeId} {r0 : Value} {most : Int} {so : Option Addr} {sc : Nat} {ss : List ByteArray} {cnt : Nat} {m : Mov} {W w6 w7 w9 : World} {kk : Int} {okb : Bool} {ob A B : Nat} {ra wa : Option Addr} {rc wc : Nat} {cs cs' : Array Value} (hmo : MeetOut H wb mb T r0 most so sc ss cnt m.to w6 (.returned (.tuple #[.int .i64 kk, .bool okb])) w7) (hbad : m.bad = 0) (hn : Nu W w6) (ho : W.heap.size ≤ ob) (hA : W.heap.size ≤ A)
    (hob : w7.heap[ob]? = some (.cells cs 122 (0, 0))) (hAb : w7.heap[A]? = some (.cells cs' 122 (0, 0))) (hm9 : Mv (fun b => b = ob ∨ b = A) w7 w9) (hr : OwnI w9 B ra rc m.reads) (hw : OwnI w9 B wa wc m.writes) (hB : W.heap.size ≤ B) :
    ArcOut H wb mb T r0 most so sc ss cnt m W (.returned (.tuple #[.agg #[.int .i64 m.proc, .int .i64 kk, .int .i64 m.bad, .slice ra m.reads.length rc, .slice wa m.writes.length wc, .int .u64 m.turns], .bool okb])) w9 := by
  have hown : ∀ (to : Int), AXOwn w9 W.heap.size ⟨⟨m.proc, to, m.bad, m.reads, m.writes, m.turns⟩, ra, rc, wa, wc⟩ := fun to => ⟨hr.mv (Mv.refl (fun _ => False) _) (fun _ _ _ => id) hB, hw.mv (Mv.refl (fun _ => False) _) (fun _ _ _ => id) hB⟩
  have hge : ∀ b, (b = ob ∨ b = A) → W.heap.size ≤ b := fun b hb => by rcases hb with rfl | rfl <;> assumption
  rcases hmo with ⟨k, hp, he, hn7⟩ | ⟨hp, hl, he, hn7⟩ | ⟨hp, hl, he, so', sc', hwk, hmv, hws⟩
  · cases he
    exact .inl ⟨⟨⟨m.proc, k, m.bad, m.reads, m.writes, m.turns⟩, ra, rc, wa, wc⟩, k, by rw [if_pos hbad]; exact hp, rfl, rfl, hown k, (mv0 hn hn7).trans hm9 (fun b hb => .inr (hge b hb))⟩
  · cases he
    exact .inr (.inl ⟨hbad, hp, hl, ⟨⟨⟨m.proc, 0, m.bad, m.reads, m.writes, m.turns⟩, ra, rc, wa, wc⟩, rfl⟩, (mv0 hn hn7).trans hm9 (fun b hb => .inr (hge b hb))⟩)
  · cases he
    refine .inr (.inr ⟨hbad, hp, hl, ⟨⟨m.proc, ss.length, m.bad, m.reads, m.writes, m.turns⟩, ra, rc, wa, wc⟩, rfl, rfl, hown _, so', sc', hwk.mv hm9 (fun b hb hx => ?_), ?_, fun b hb => (hws b hb).imp id (fun h => Nat.le_trans hn.size h)⟩)
    · rcases hx with rfl | rfl
      · exact hwk.apart hob (by decide) (by decide) hb
      · exact hwk.apart hAb (by decide) (by decide) hb
    · have m1 : Mv (WS wb mb so ss.length sc) W w7 := (hn.mono (fun _ h => h.elim)).trans hmv (fun b hb => .inl hb)
      exact m1.trans hm9 (fun b hb => .inr (hge b hb))

set_option maxHeartbeats 8000000 in
set_option maxRecDepth 40000 in
theorem arc_any (H wb mb : Nat) (T : TypeId) (r0 : Value) (most : Int) (so : Option Addr) (sc : Nat) (ss : List ByteArray) (cnt : Nat) (xb : Nat) (x : X) (W : World) (h : WK H W wb mb T r0 most so sc ss cnt) (hx : XAt W xb 0 x) (hr : IntsAt W W.heap.size x.ra x.m.reads) (hw : IntsAt W W.heap.size x.wa x.m.writes) (hxn : ¬ WS wb mb so ss.length sc xb) (hs : Short x.m.to) (hl : ss.length ≤ 20000) :
    Calls Tryd.prog 65 #[.pointer (some ⟨wb, 0, none⟩), .pointer (some ⟨xb, 0, none⟩)] W (ArcOut H wb mb T r0 most so sc ss cnt x.m W) := by
  have HW := hid h
  have HRI := hid hr
  have HWI := hid hw
  have HXN := hid hxn
  have HS := hid hs
  have HL := hid hl
  have c0 := hx.c0
  have c4 := hx.c4
  have c5 := hx.c5
  have c6 := hx.c6
  have c7 := hx.c7
  have c8 := hx.c8
  simp only [Nat.zero_add] at c4 c5 c6 c7 c8
  have HXB : Hid (xb < W.heap.size) := World.block_lt_of_cell? W _ c0
  clear h hr hw hxn hs hx
  go_enter Tryd.func65, Tryd.ntmps65
  go_upto_region 1 with fail
  have HN1 : Hid (Nu W (W.alloc (.cells #[.int .i64 0, .int .i64 0, .int .i64 0, .slice none 0 0, .slice none 0 0, .int .u64 0] 122))) := Mv.alloc _ _ _
  have HA1 : Hid ((W.alloc (.cells #[.int .i64 0, .int .i64 0, .int .i64 0, .slice none 0 0, .slice none 0 0, .int .u64 0] 122)).heap[W.heap.size]? = some (.cells #[.int .i64 0, .int .i64 0, .int .i64 0, .slice none 0 0, .slice none 0 0, .int .u64 0] 122 (0, 0))) := heap_alloc_new W _
  have HZ1 : Hid ((W.alloc (.cells #[.int .i64 0, .int .i64 0, .int .i64 0, .slice none 0 0, .slice none 0 0, .int .u64 0] 122)).heap.size = W.heap.size + 1) := World.size_alloc _ _
  generalize W.alloc (.cells #[.int .i64 0, .int .i64 0, .int .i64 0, .slice none 0 0, .slice none 0 0, .int .u64 0] 122) = w1 at *
  replace c0 := cell_mv HN1.out c0 id
  replace c4 := cell_mv HN1.out c4 id
  replace c5 := cell_mv HN1.out c5 id
  replace c6 := cell_mv HN1.out c6 id
  replace c7 := cell_mv HN1.out c7 id
  replace c8 := cell_mv HN1.out c8 id
  replace HRI := hid (HRI.out.below HN1.out.nu_below HN1.out.size)
  replace HWI := hid (HWI.out.below HN1.out.nu_below HN1.out.size)
  rename_i KC hKC
  refine wp_lookS (RA xb w1.heap.size x) RA.nu (by kernel_rfl) (by kernel_rfl) ?step ?last
  case step =>
    intro i p d a w' ho hd hn hfr had K hK
    have hi : i < 25 := (Array.getElem?_eq_some_iff.1 ho).1
    have f1 := hfr 1 (by kernel_rfl)
    have : i = 0 ∨ i = 1 ∨ i = 2 ∨ i = 3 ∨ i = 4 ∨ i = 5 ∨ i = 6 ∨ i = 7 ∨ i = 8 ∨ i = 9 ∨ i = 10 ∨ i = 11 ∨ i = 12 ∨ i = 13 ∨ i = 14 ∨ i = 15 ∨ i = 16 ∨ i = 17 ∨ i = 18 ∨ i = 19 ∨ i = 20 ∨ i = 21 ∨ i = 22 ∨ i = 23 ∨ i = 24 := by omega
    rcases this with rfl | rfl | rfl | rfl | rfl | rfl | rfl | rfl | rfl | rfl | rfl | rfl | rfl | rfl | rfl | rfl | rfl | rfl | rfl | rfl | rfl | rfl | rfl | rfl | rfl <;> cases ho <;> cases hd
    · exact ite_yes (want_none rfl) (lk_move rfl rfl f1 (fun w' hm => hK w' _ hm rfl))
    · obtain ⟨⟨_, h0, rfl⟩, _⟩ := had; exact ite_yes (want_none rfl) (lk_nilP rfl rfl h0 (fun w' hm => hK w' _ hm rfl))
    · obtain ⟨⟨_, h0, rfl⟩, _⟩ := had; exact ite_yes (want_none rfl) (lk_fieldM0 rfl rfl h0 (fun w' hm => hK w' _ hm rfl))
    · obtain ⟨⟨_, h0, rfl⟩, _⟩ := had; exact ite_yes (want_none rfl) (lk_loadN rfl rfl h0 (cell_mv hn c0 id) (fun w' hm => hK w' _ hm rfl))
    · exact ite_yes (want_none rfl) (lk_move rfl rfl f1 (fun w' hm => hK w' _ hm rfl))
    · obtain ⟨⟨_, h0, rfl⟩, _⟩ := had; exact ite_yes (want_none rfl) (lk_nilP rfl rfl h0 (fun w' hm => hK w' _ hm rfl))
    · obtain ⟨⟨_, h0, rfl⟩, _⟩ := had; exact ite_yes (want_none rfl) (lk_fieldM5 rfl rfl h0 (fun w' hm => hK w' _ hm rfl))
    · obtain ⟨⟨_, h0, rfl⟩, _⟩ := had; exact ite_yes (want_none rfl) (lk_loadN rfl rfl h0 (cell_mv hn c5 id) (fun w' hm => hK w' _ hm rfl))
    · exact ite_yes (want_none rfl) (lk_move rfl rfl f1 (fun w' hm => hK w' _ hm rfl))
    · obtain ⟨⟨_, h0, rfl⟩, _⟩ := had; exact ite_yes (want_none rfl) (lk_nilP rfl rfl h0 (fun w' hm => hK w' _ hm rfl))
    · obtain ⟨⟨_, h0, rfl⟩, _⟩ := had; exact ite_yes (want_none rfl) (lk_fieldM8 rfl rfl h0 (fun w' hm => hK w' _ hm rfl))
    · obtain ⟨⟨_, h0, rfl⟩, _⟩ := had; exact ite_yes (want_none rfl) (lk_loadU rfl rfl h0 (cell_mv hn c8 id) (fun w' hm => hK w' _ hm rfl))
    · exact ite_yes (want_none rfl) (lk_move rfl rfl f1 (fun w' hm => hK w' _ hm rfl))
    · obtain ⟨⟨_, h0, rfl⟩, _⟩ := had; exact ite_yes (want_none rfl) (lk_nilP rfl rfl h0 (fun w' hm => hK w' _ hm rfl))
    · obtain ⟨⟨_, h0, rfl⟩, _⟩ := had; exact ite_yes (want_none rfl) (lk_fieldM6 rfl rfl h0 (fun w' hm => hK w' _ hm rfl))
    · obtain ⟨⟨_, h0, rfl⟩, _⟩ := had; exact ite_yes (want_none rfl) (lk_loadI rfl rfl h0 (cell_mv hn c6 id) (fun w' hm => hK w' _ hm rfl))
    · obtain ⟨⟨_, h0, rfl⟩, _⟩ := had; exact ite_yes (want_none rfl) (lk_clone rfl rfl h0 (HRI.out.below hn.nu_below hn.size) (fun w' ao' cap' hm hown => hK w' _ hm ⟨ao', cap', rfl, hown.mv (Mv.refl (fun _ => False) _) (fun _ _ _ => id) hn.size⟩))
    · exact ite_yes (want_none rfl) (lk_move rfl rfl f1 (fun w' hm => hK w' _ hm rfl))
    · obtain ⟨⟨_, h0, rfl⟩, _⟩ := had; exact ite_yes (want_none rfl) (lk_nilP rfl rfl h0 (fun w' hm => hK w' _ hm rfl))
    · obtain ⟨⟨_, h0, rfl⟩, _⟩ := had; exact ite_yes (want_none rfl) (lk_fieldM7 rfl rfl h0 (fun w' hm => hK w' _ hm rfl))
    · obtain ⟨⟨_, h0, rfl⟩, _⟩ := had; exact ite_yes (want_none rfl) (lk_loadI rfl rfl h0 (cell_mv hn c7 id) (fun w' hm => hK w' _ hm rfl))
    · obtain ⟨⟨_, h0, rfl⟩, _⟩ := had; exact ite_yes (want_none rfl) (lk_clone rfl rfl h0 (HWI.out.below hn.nu_below hn.size) (fun w' ao' cap' hm hown => hK w' _ hm ⟨ao', cap', rfl, hown.mv (Mv.refl (fun _ => False) _) (fun _ _ _ => id) hn.size⟩))
    · obtain ⟨⟨_, h0, rfl⟩, ⟨_, h1, rfl⟩, ⟨_, h2, rfl⟩, ⟨_, h3, ra, rc, rfl, hra⟩, ⟨_, h4, wa, wc, rfl, hwa⟩, _⟩ := had; exact ite_yes (want_none rfl) (lk_buildA rfl rfl h0 h1 h2 h3 h4 (fun w' hm => hK w' _ hm ⟨ra, rc, wa, wc, rfl, hra.mv hm (fun _ _ _ => id) (Nat.le_refl _), hwa.mv hm (fun _ _ _ => id) (Nat.le_refl _)⟩))
    · exact ite_yes (want_none rfl) (lk_allocA rfl rfl (hK _ _ (Mv.alloc _ _ _) ⟨_, rfl, heap_alloc_new _ _, hn.size⟩))
  case last =>
    intro p a w5 ho hn5 hdf hsz hfr htv
    cases ho
    obtain ⟨v16, t16, _⟩ := htv 16 _ 25 rfl rfl
    obtain ⟨v21, t21, _⟩ := htv 21 _ 30 rfl rfl
    obtain ⟨v22, t22, ra, rc, wa, wc, rfl, hra, hwa⟩ := htv 22 _ 31 rfl rfl
    obtain ⟨v23, t23, ob, rfl, hob, hobl⟩ := htv 23 _ 6 rfl rfl
    have htm := fill_eq (vals := fun i => ([.pointer (some ⟨xb, 0, none⟩), .pointer (some ⟨xb, 0, none⟩), .pointer (some ⟨xb, 0, none⟩), .int .i64 x.m.proc, .pointer (some ⟨xb, 0, none⟩), .pointer (some ⟨xb, 0, none⟩), .pointer (some ⟨xb, 5, none⟩), .int .i64 x.m.bad, .pointer (some ⟨xb, 0, none⟩), .pointer (some ⟨xb, 0, none⟩), .pointer (some ⟨xb, 8, none⟩), .int .u64 x.m.turns, .pointer (some ⟨xb, 0, none⟩), .pointer (some ⟨xb, 0, none⟩), .pointer (some ⟨xb, 6, none⟩), .slice x.ra x.m.reads.length x.rc, v16, .pointer (some ⟨xb, 0, none⟩), .pointer (some ⟨xb, 0, none⟩), .pointer (some ⟨xb, 7, none⟩), .slice x.wa x.m.writes.length x.wc, v21, .agg #[.int .i64 x.m.proc, .int .i64 0, .int .i64 x.m.bad, .slice ra x.m.reads.length rc, .slice wa x.m.writes.length wc, .int .u64 x.m.turns], .pointer (some ⟨ob, 0, none⟩)] : List Value).getD i undef) (by kernel_rfl) hfr (fun i p d hi hd => by
      have hi' : i < 25 := (Array.getElem?_eq_some_iff.1 hi).1
      obtain ⟨v, h, hv⟩ := htv i p d hi hd
      have : i = 0 ∨ i = 1 ∨ i = 2 ∨ i = 3 ∨ i = 4 ∨ i = 5 ∨ i = 6 ∨ i = 7 ∨ i = 8 ∨ i = 9 ∨ i = 10 ∨ i = 11 ∨ i = 12 ∨ i = 13 ∨ i = 14 ∨ i = 15 ∨ i = 16 ∨ i = 17 ∨ i = 18 ∨ i = 19 ∨ i = 20 ∨ i = 21 ∨ i = 22 ∨ i = 23 ∨ i = 24 := by omega
      rcases this with rfl | rfl | rfl | rfl | rfl | rfl | rfl | rfl | rfl | rfl | rfl | rfl | rfl | rfl | rfl | rfl | rfl | rfl | rfl | rfl | rfl | rfl | rfl | rfl | rfl <;> cases hi <;> cases hd <;> first | exact t16 | exact t21 | exact t22 | exact t23 | exact h.trans (congrArg some hv))
    refine lk_storeA rfl rfl t23 t22 hob (fun w6 hb6 hm6 => ?_)
    refine hKC _ _ ?_
    have HN6 : Hid (Nu w1 w6) := hn5.trans hm6 (fun x hx => .inr (by omega))
    have HB6 := hid hb6
    have HOB := hid hobl
    have hobr : ∀ {ao : Option Addr} {cp : Nat} {ys : List Int}, OwnI w5 w1.heap.size ao cp ys → ∀ a, 0 < cp → ao = some a → ¬ a.block = ob := fun {ao cp ys} hy a hp ha e => by
      rcases hy.row with h0 | ⟨g, cs, hg, hh, hc, _⟩
      · omega
      · rw [hg] at ha; cases ha
        simp only at e
        rw [e, hob] at hc
        simp at hc
    have HOW6 : Hid (OwnI w6 w1.heap.size ra rc x.m.reads ∧ OwnI w6 w1.heap.size wa wc x.m.writes) := ⟨hra.mv hm6 (hobr hra) (Nat.le_refl _), hwa.mv hm6 (hobr hwa) (Nat.le_refl _)⟩
    rw [act_eq' htm hdf]
    clear htm hdf hn5 hsz hfr htv t16 t21 t22 t23 hob hb6 hm6 hobl hKC hobr hra hwa
    simp only [fill, List.getD_cons_succ, List.getD_cons_zero, List.setIfInBounds_toArray, List.set_cons_succ, List.set_cons_zero]
    replace c4 := cell_mv HN6.out c4 id
    replace c5 := cell_mv HN6.out c5 id
    clear c0 c6 c7 c8
    have HA6 := hid (HN6.out.heap HA1.out id)
    have HNW := hid (mv0 HN1.out HN6.out)
    have HZO : Hid (W.heap.size < ob) := by have := HOB.out; have := HZ1.out; show _ < _; omega
    have HAO : Hid (∀ (W9 W10 : World) (ao : Option Addr) (cp : Nat) (ys : List Int) (S : Nat → Prop), OwnI W9 w1.heap.size ao cp ys → Mv S W9 W10 → (∀ b, S b → b ≤ W.heap.size ∨ ∃ cs, W9.heap[b]? = some (.cells cs 122 (0, 0))) → OwnI W10 w1.heap.size ao cp ys) := fun W9 W10 ao cp ys S hy hm hS => hy.mv hm (fun a hp ha hs => by
      rcases hy.row with h0 | ⟨g, cs, hg, hh, hc, _⟩
      · omega
      · rw [hg] at ha; cases ha
        rcases hS _ hs with h1 | ⟨cs', hc'⟩
        · have := HZ1.out; simp only at h1; omega
        · simp only at hc'
          rw [hc] at hc'
          simp at hc') (Nat.le_refl _)
    by_cases hbad : x.m.bad = 0
    · rw [hbad] at c5
      have HBAD := hid hbad
      go_upto_region 5 with (go_at_call 52; refine (meet_any H wb mb T r0 most so sc ss cnt x.m.to w6 (HW.out.nu HNW.out) HS.out HL.out).mono ?_; rintro e w7 hmo; obtain ⟨kk, okb, rfl, hm7⟩ := hmo.mid; have HMO := hid hmo; have HM7 := hid hm7; clear hmo hm7)
      have hwk6 := HW.out.nu HNW.out
      have HB7 := hid (HM7.out.heap HB6.out (hwk6.apart HB6.out (by decide) (by decide)))
      have HA7 := hid (HM7.out.heap HA6.out (hwk6.apart HA6.out (by decide) (by decide)))
      have HO7 : Hid (OwnI w7 w1.heap.size ra rc x.m.reads ∧ OwnI w7 w1.heap.size wa wc x.m.writes) := by
        have key : ∀ {ao : Option Addr} {cp : Nat} {ys : List Int}, OwnI w6 w1.heap.size ao cp ys → OwnI w7 w1.heap.size ao cp ys := fun {ao cp ys} hy => hy.mv HM7.out (fun a hp ha hs => by
          rcases hy.row with h0 | ⟨g, cs, hg, hh, hc, _⟩
          · omega
          · rw [hg] at ha; cases ha
            exact hwk6.apart hc (by decide) (by decide) hs) (Nat.le_refl _)
        exact ⟨key HOW6.out.1, key HOW6.out.2⟩
      have e1 := cell_blk HB7.out 1
      have z1 := free_blk HB7.out 1
      simp only [List.size_toArray, List.length_cons, List.length_nil, Nat.reduceAdd, Nat.lt_add_one, Nat.reduceLT, getElem?_pos, List.getElem_toArray, List.getElem_cons_zero, List.getElem_cons_succ, Nat.zero_lt_succ] at e1
      clear hwk6 c4 c5 hbad
      go_upto_region 6 with fail
      have HM8 : Hid (Mv (· = ob) w7 (w7.setCell ⟨ob, 1, none⟩ (.int .i64 kk))) := Mv.setCell w7 ⟨ob, 1, none⟩ _
      have HB8 : Hid ((w7.setCell ⟨ob, 1, none⟩ (.int .i64 kk)).heap[ob]? = some (.cells #[.int .i64 x.m.proc, .int .i64 kk, .int .i64 x.m.bad, .slice ra x.m.reads.length rc, .slice wa x.m.writes.length wc, .int .u64 x.m.turns] 122 (0, 0))) := setCell_blk HB7.out
      have HA8 := hid (HM8.out.heap HA7.out (fun e => by have := HZO.out; omega))
      generalize w7.setCell ⟨ob, 1, none⟩ (.int .i64 kk) = w8 at *
      clear e1 z1
      obtain ⟨p0, p1, p2, p3, p4, p5⟩ := cells6 HB8.out
      obtain ⟨q0, q1, q2, q3, q4, q5⟩ := cells6 HA8.out
      obtain ⟨y0, y1, y2, y3, y4, y5⟩ := frees6 HA8.out
      go_wp2
      obtain ⟨hset, hmset⟩ := set6 (v0 := .int .i64 x.m.proc) (v1 := .int .i64 kk) (v2 := .int .i64 x.m.bad) (v3 := .slice ra x.m.reads.length rc) (v4 := .slice wa x.m.writes.length wc) (v5 := .int .u64 x.m.turns) HA8.out
      refine bodyPost_ret (results_row_tmp rfl _ _ W.heap.size _ rfl (run_loadVar_row _ _ _ _ _ _ _ hset Tryd.underlying122 rfl (by kernel_rfl))) rfl ?_
      have hm79 : Mv (fun b => b = ob ∨ b = W.heap.size) w7 _ := (HM8.out.mono (fun b hb => .inl (.inl hb))).trans hmset (fun b hb => .inl (.inr hb))
      have hS : ∀ b, (b = ob ∨ b = W.heap.size) → b ≤ W.heap.size ∨ ∃ cs, w7.heap[b]? = some (.cells cs 122 (0, 0)) := fun b hb => by
        rcases hb with rfl | rfl
        · exact .inr ⟨_, HB7.out⟩
        · exact .inl (Nat.le_refl _)
      exact arc_fin HMO.out HBAD.out HNW.out (Nat.le_of_lt HZO.out) (Nat.le_refl _) HB7.out HA7.out hm79 (HAO.out _ _ _ _ _ _ HO7.out.1 hm79 hS) (HAO.out _ _ _ _ _ _ HO7.out.2 hm79 hS) (by have := HZ1.out; omega)
    · have HBAD := hid hbad
      go_upto_region 3 with fail
      obtain ⟨p0, p1, p2, p3, p4, p5⟩ := cells6 HB6.out
      obtain ⟨q0, q1, q2, q3, q4, q5⟩ := cells6 HA6.out
      obtain ⟨y0, y1, y2, y3, y4, y5⟩ := frees6 HA6.out
      clear c4 c5 hbad
      go_wp2
      obtain ⟨hset, hmset⟩ := set6 (v0 := .int .i64 x.m.proc) (v1 := .int .i64 0) (v2 := .int .i64 x.m.bad) (v3 := .slice ra x.m.reads.length rc) (v4 := .slice wa x.m.writes.length wc) (v5 := .int .u64 x.m.turns) HA6.out
      refine bodyPost_ret (results_row_tmp rfl _ _ W.heap.size _ rfl (run_loadVar_row _ _ _ _ _ _ _ hset Tryd.underlying122 rfl (by kernel_rfl))) rfl ?_
      have hS : ∀ b, b = W.heap.size → b ≤ W.heap.size ∨ ∃ cs, w6.heap[b]? = some (.cells cs 122 (0, 0)) := fun b hb => .inl (by omega)
      have o1 := HAO.out _ _ _ _ _ _ HOW6.out.1 hmset hS
      have o2 := HAO.out _ _ _ _ _ _ HOW6.out.2 hmset hS
      have hz := HZ1.out
      exact .inl ⟨⟨arcOf x.m 0, ra, rc, wa, wc⟩, 0, by rw [if_neg HBAD.out], rfl, rfl, ⟨o1.mv (Mv.refl (fun _ => False) _) (fun _ _ _ => id) (by omega), o2.mv (Mv.refl (fun _ => False) _) (fun _ _ _ => id) (by omega)⟩, HNW.out.trans hmset (fun b hb => .inr (by omega))⟩

end Go.Proofs.YtiinmaedmkgfoaaDoor
/-
  A state's moves, gone over by the program's node: what lies where. Laws on worlds.
-/
set_option linter.unusedVariables false
set_option linter.unusedSimpArgs false
namespace Go.Proofs.YtiinmaedmkgfoaaDoor
open Go.RowKit

structure NI (H wb mb : Nat) (T : TypeId) (r0 : Value) (most : Int) (W0 : World) (S0 : Nat → Prop) (HL b2 b4 b5 b7 : Nat) (s : Sight) (A : World) (so : Option Addr) (sc : Nat) (u : Und) (va : Option Addr) (vac : Nat) (axs : List AX) : Prop where
  wk : WK H A wb mb T r0 most so sc u.states u.cnt
  k2 : A.heap[b2]? = some (.cells #[.pointer (some ⟨wb, 0, none⟩)] 90 (0, 0))
  k4 : A.heap[b4]? = some (.cells #[.slice none 0 0, .int .u64 0, .bool false, .bool false, .bool false] 125 (0, 0))
  k5 : A.heap[b5]? = some (.cells #[.bool false] 4 (0, 0))
  k7 : A.heap[b7]? = some (.cells #[.slice va u.arcs.length vac, .int .u64 s.props, .bool s.en, .bool s.pr, .bool s.ac] 125 (0, 0))
  arow : A.ownsRow HL 122 6 (.slice va u.arcs.length vac) u.arcs.length (axflat axs)
  aeq : axs.map AX.a = u.arcs
  az : ∀ y ∈ axs, AXZ A (ZI W0.heap.size A) y
  mv : Mv S0 W0 A
  ws : ∀ b, WS wb mb so u.states.length sc b → S0 b ∨ HL ≤ b

/-- What a round may write into. -/
def NO (wb mb : Nat) (so : Option Addr) (n sc b4 b5 b7 : Nat) (va : Option Addr) (m vac : Nat) (b : Nat) : Prop := WS wb mb so n sc b ∨ b = b7 ∨ b = b4 ∨ b = b5 ∨ (Value.slice va m vac).ownBlock = some b

theorem ZI.mv {S : Nat → Prop} {H : Nat} {A A' : World} {b : Nat} (h : ZI H A b) (hm : Mv S A A') (hS : ¬ S b) : ZI H A' b := by
  obtain ⟨h1, cs, hc⟩ := h
  exact ⟨h1, cs, hm.heap hc hS⟩

theorem NI.books {H wb mb : Nat} {T : TypeId} {r0 : Value} {most : Int} {W0 : World} {S0 : Nat → Prop} {HL b2 b4 b5 b7 : Nat} {s : Sight} {A A' : World} {so : Option Addr} {sc : Nat} {u : Und} {va : Option Addr} {vac : Nat} {axs : List AX} {B : Nat}
    (h : NI H wb mb T r0 most W0 S0 HL b2 b4 b5 b7 s A so sc u va vac axs) (hm : Mv (fun x => B ≤ x ∧ ∃ o, A.heap[x]? = some o ∧ bookO o = true) A A') (hB : W0.heap.size ≤ B) : NI H wb mb T r0 most W0 S0 HL b2 b4 b5 b7 s A' so sc u va vac axs := by
  have hn : ∀ {b : Nat} {o : Obj}, A.heap[b]? = some o → bookO o = false → ¬ (B ≤ b ∧ ∃ o, A.heap[b]? = some o ∧ bookO o = true) := fun {b o} hb ho ⟨_, o', h1, h2⟩ => by
    rw [hb] at h1; cases h1; rw [ho] at h2; cases h2
  refine ⟨h.wk.mv hm (fun b hb => ?_), hm.heap h.k2 (hn h.k2 rfl), hm.heap h.k4 (hn h.k4 rfl), hm.heap h.k5 (hn h.k5 rfl), hm.heap h.k7 (hn h.k7 rfl), row_mv hm h.arow (fun k hk => ?_), h.aeq, fun y hy => (h.az y hy).mv hm (fun b hb => ?_) (fun b hb => ?_), h.mv.trans hm (fun b hb => .inr (by have := hb.1; omega)), h.ws⟩
  · rcases hb with rfl | rfl | hb
    · exact hn h.wk.blk rfl
    · obtain ⟨es, clock, hc⟩ := h.wk.mp.blk; exact hn hc rfl
    · obtain ⟨_, _, cs, hc⟩ := row_blk h.wk.st hb; exact hn hc rfl
  · obtain ⟨_, _, cs, hc⟩ := row_blk h.arow hk; exact hn hc rfl
  · obtain ⟨_, cs, hc⟩ := hb; exact hn hc rfl
  · obtain ⟨h1, cs, hc⟩ := hb; exact ⟨h1, cs, hm.heap hc (hn hc rfl)⟩

theorem NI.step {H wb mb : Nat} {T : TypeId} {r0 : Value} {most : Int} {W0 : World} {S0 : Nat → Prop} {HL b2 b4 b5 b7 : Nat} {s : Sight} {W W1 W2 W3 W4 : World} {so : Option Addr} {sc : Nat} {u : Und} {va : Option Addr} {vac : Nat} {axs : List AX} {so' : Option Addr} {sc' g' vac' : Nat} {ss' : List ByteArray} {ax : AX}
    (h : NI H wb mb T r0 most W0 S0 HL b2 b4 b5 b7 s W so sc u va vac axs) (h47 : b4 ≠ b7) (h7 : W0.heap.size ≤ b7) (hHL : W0.heap.size ≤ HL) (hHW : HL ≤ W.heap.size) (hm1 : Mv (· = wb) W W1) (hwk : WK H W2 wb mb T r0 most so' sc' ss' (u.cnt + 1)) (hm2 : Mv (WS wb mb so u.states.length sc) W1 W2) (hws : ∀ b, WS wb mb so' ss'.length sc' b → WS wb mb so u.states.length sc b ∨ W1.heap.size ≤ b) (hax : AXOwn W2 W1.heap.size ax)
    (hm3 : Nu W2 W3) (hg : W3.grownBy W4 (Value.slice va u.arcs.length vac).ownBlock) (hr : W4.ownsRow HL 122 6 (.slice (some ⟨g', 0, none⟩) (u.arcs.length + 1) vac') (u.arcs.length + 1) (axflat axs ++ ax.cells)) (hgg : (Value.slice va u.arcs.length vac).ownBlock = some g' ∨ g' = W3.heap.size) :
    NI H wb mb T r0 most W0 S0 HL b2 b4 b5 b7 s (W4.setCell ⟨b7, 0, none⟩ (.slice (some ⟨g', 0, none⟩) (u.arcs.length + 1) vac')) so' sc' ⟨ss', u.cnt + 1, u.arcs ++ [ax.a]⟩ (some ⟨g', 0, none⟩) vac' (axs ++ [ax]) ∧
    Mv (fun b => WS wb mb so u.states.length sc b ∨ b = b7 ∨ (Value.slice va u.arcs.length vac).ownBlock = some b) W (W4.setCell ⟨b7, 0, none⟩ (.slice (some ⟨g', 0, none⟩) (u.arcs.length + 1) vac')) ∧ W.heap.size ≤ W3.heap.size := by
  have hm4 := Mv.grown hg
  have hm5 := Mv.setCell W4 ⟨b7, 0, none⟩ (.slice (some ⟨g', 0, none⟩) (u.arcs.length + 1) vac')
  have hz1 := hm1.size
  have hz2 := hm2.size
  have hz3 := hm3.size
  have m2 : Mv (WS wb mb so u.states.length sc) W W2 := (hm1.mono (fun x hx => .inl (.inl hx))).trans hm2 (fun x hx => .inl hx)
  have m25 : Mv (fun b => b = b7 ∨ (Value.slice va u.arcs.length vac).ownBlock = some b) W2 (W4.setCell ⟨b7, 0, none⟩ (.slice (some ⟨g', 0, none⟩) (u.arcs.length + 1) vac')) :=
    ((hm3.mono (fun _ h => h.elim)).trans hm4 (fun x hx => .inl (.inr hx))).trans hm5 (fun x hx => .inl (.inl hx))
  have M : Mv (fun b => WS wb mb so u.states.length sc b ∨ b = b7 ∨ (Value.slice va u.arcs.length vac).ownBlock = some b) W (W4.setCell ⟨b7, 0, none⟩ (.slice (some ⟨g', 0, none⟩) (u.arcs.length + 1) vac')) := (m2.mono (fun x hx => .inl (.inl hx))).trans m25 (fun x hx => .inl (.inr hx))
  have keep : ∀ {b : Nat} {cs : Array Value} {t : TypeId}, W.heap[b]? = some (.cells cs t (0, 0)) → t ≠ 93 → t ≠ 9 → t ≠ 122 → b ≠ b7 → ¬ (WS wb mb so u.states.length sc b ∨ b = b7 ∨ (Value.slice va u.arcs.length vac).ownBlock = some b) := fun {b cs t} hb h1 h2 h3 h4 hx => by
    rcases hx with hx | hx | hx
    · exact h.wk.apart hb h1 h2 hx
    · exact h4 hx
    · obtain ⟨_, _, cs', hc⟩ := row_blk h.arow hx
      rw [hb] at hc
      simp only [Option.some.injEq, Obj.cells.injEq] at hc
      exact h3 hc.2.1
  have hk7 : W4.heap[b7]? = _ := hm4.heap (hm3.heap (m2.heap h.k7 (h.wk.apart h.k7 (by decide) (by decide))) id) (fun e => by
    obtain ⟨_, _, cs', hc⟩ := row_blk h.arow e
    rw [h.k7] at hc
    simp at hc)
  have h7b2 : W2.heap[b7]? = _ := m2.heap h.k7 (h.wk.apart h.k7 (by decide) (by decide))
  have hz7 : ∀ b, ZI W0.heap.size W b → b ≠ b7 := fun b ⟨_, cs, hc⟩ e => by
    rw [e, h.k7] at hc
    simp at hc
  have hrow2 : ∀ k, (Value.slice va u.arcs.length vac).ownBlock = some k → ∃ cs, W2.heap[k]? = some (.cells cs 122 (0, 0)) := fun k hk => by
    obtain ⟨_, _, cs, hc⟩ := row_blk h.arow hk
    exact ⟨cs, m2.heap hc (h.wk.apart hc (by decide) (by decide))⟩
  have hlen : (u.arcs ++ [ax.a]).length = u.arcs.length + 1 := by simp
  refine ⟨⟨hwk.mv m25 (fun b hb hx => ?_), M.heap h.k2 (keep h.k2 (by decide) (by decide) (by decide) (fun e => ?_)), M.heap h.k4 (keep h.k4 (by decide) (by decide) (by decide) h47), M.heap h.k5 (keep h.k5 (by decide) (by decide) (by decide) (fun e => ?_)), ?_, ?_, ?_, fun y hy => ?_, h.mv.trans M (fun b hb => ?_), fun b hb => ?_⟩, M, by omega⟩
  · rcases hx with rfl | hx
    · exact hwk.apart h7b2 (by decide) (by decide) hb
    · obtain ⟨cs, hc⟩ := hrow2 b hx
      exact hwk.apart hc (by decide) (by decide) hb
  · have := h.k2; rw [e, h.k7] at this; simp at this
  · have := h.k5; rw [e, h.k7] at this; simp at this
  · rw [setCell_blk hk7, hlen]; rfl
  · rw [hlen, axflat_snoc]
    exact row_mv hm5 hr (fun k hk e => by
      obtain ⟨_, _, cs, hc⟩ := row_blk hr hk
      simp only at e
      rw [e, hk7] at hc
      simp at hc)
  · rw [List.map_append, h.aeq]; rfl
  · rcases List.mem_append.1 hy with hy | hy
    · refine (h.az y hy).mv M (fun b hb => ?_) (fun b hb => hb.mv M ?_) <;>
      · obtain ⟨h1, cs, hc⟩ := hb
        exact keep hc (by decide) (by decide) (by decide) (hz7 b ⟨h1, cs, hc⟩)
    · rw [List.mem_singleton.1 hy]
      have key : ∀ {ao : Option Addr} {cp : Nat} {ys : List Int}, OwnI W2 W1.heap.size ao cp ys → IntsZ (W4.setCell ⟨b7, 0, none⟩ (.slice (some ⟨g', 0, none⟩) (u.arcs.length + 1) vac')) (ZI W0.heap.size (W4.setCell ⟨b7, 0, none⟩ (.slice (some ⟨g', 0, none⟩) (u.arcs.length + 1) vac'))) ao ys := fun {ao cp ys} ho => by
        refine (ho.z (Z := ZI W0.heap.size W2) (fun a hp ha => ?_)).mv m25 (fun b hb => ?_) (fun b hb => hb.mv m25 ?_)
        · rcases ho.row with h0 | ⟨g, cs, hg, hh, hc, _⟩
          · omega
          · rw [hg] at ha; cases ha; exact ⟨Nat.le_trans (by omega) hh, cs, hc⟩
        · obtain ⟨_, cs, hc⟩ := hb
          rintro (e | e)
          · rw [e, h7b2] at hc; simp at hc
          · obtain ⟨cs', hc'⟩ := hrow2 b e
            rw [hc] at hc'; simp at hc'
        · obtain ⟨_, cs, hc⟩ := hb
          rintro (e | e)
          · rw [e, h7b2] at hc; simp at hc
          · obtain ⟨cs', hc'⟩ := hrow2 b e
            rw [hc] at hc'; simp at hc'
      exact ⟨key hax.1, key hax.2⟩
  · rcases hb with hb | hb | hb
    · exact (h.ws b hb).imp id (fun h => by omega)
    · exact .inr (by omega)
    · exact .inr (by have := (row_blk h.arow hb).1; omega)
  · rcases hws b hb with hb | hb
    · exact h.ws b hb
    · exact .inr (by omega)

/-- One move more is counted. -/
theorem WK.count {H : Nat} {W : World} {wb mb : Nat} {T : TypeId} {r0 : Value} {most : Int} {so : Option Addr} {sc : Nat} {ss : List ByteArray} {cnt : Nat} (h : WK H W wb mb T r0 most so sc ss cnt) : WK H (W.setCell ⟨wb, 4, none⟩ (.int .i64 ((cnt : Int) + 1))) wb mb T r0 most so sc ss (cnt + 1) ∧ Mv (· = wb) W (W.setCell ⟨wb, 4, none⟩ (.int .i64 ((cnt : Int) + 1))) := by
  have hm := Mv.setCell W ⟨wb, 4, none⟩ (.int .i64 ((cnt : Int) + 1))
  refine ⟨⟨?_, h.mp.mv hm (fun e => ?_), row_mv hm h.st (fun k hk e => ?_), h.hw, h.hm⟩, hm⟩
  · rw [setCell_blk h.blk]; rfl
  · obtain ⟨es, clock, hc⟩ := h.mp.blk
    simp only at e
    rw [e, h.blk] at hc
    simp at hc
  · obtain ⟨_, _, cs, hc⟩ := row_blk h.st hk
    simp only at e
    rw [e, h.blk] at hc
    simp at hc

theorem oneMove_over {most : Nat} {u : Und} {m : Mov} (h : 262144 < u.cnt + 1) : oneMove most u m = none := by
  unfold oneMove
  repeat' split
  all_goals first | rfl | (exfalso; omega)
theorem allMoves_cnt {most : Nat} {l : List Mov} : ∀ {u u' : Und}, allMoves most u l = some u' → u.cnt ≤ 262144 → u.states.length ≤ most → u'.cnt ≤ 262144 := by
  induction l with
  | nil => intro u u' h hu _; cases h; exact hu
  | cons m r ih =>
    intro u u' h hu hl
    obtain ⟨v, h1, h2⟩ := Option.bind_eq_some_iff.1 h
    obtain ⟨a1, _, _, a4⟩ := oneMove_len h1 hl
    exact ih h2 a4 a1
theorem allMoves_arcs {most : Nat} {l : List Mov} : ∀ {u u' : Und}, allMoves most u l = some u' → u'.arcs.length = u.arcs.length + l.length := by
  induction l with
  | nil => intro u u' h; cases h; rfl
  | cons m r ih =>
    intro u u' h
    obtain ⟨v, h1, h2⟩ := Option.bind_eq_some_iff.1 h
    have h3 := ih h2
    have h4 : v.arcs.length = u.arcs.length + 1 := by
      unfold oneMove at h1
      repeat' split at h1
      all_goals first | (cases h1; done) | (cases h1; simp)
    rw [h3, h4, List.length_cons]
    omega
theorem moves_fail {most : Nat} {u0 u : Und} {ms : List Mov} {n : Nat} {m : Mov} (h : allMoves most u0 (ms.take n) = some u) (hm : ms[n]? = some m) (ho : oneMove most u m = none) : allMoves most u0 ms = none := by
  have h1 : allMoves most u0 (ms.take (n + 1)) = none := by rw [List.take_add_one, hm, Option.toList_some, allMoves_snoc, h, Option.bind_some, ho]
  have h2 := allMoves_prefix (r := ms.drop (n + 1)) h1
  rwa [List.take_append_drop] at h2
theorem moves_more {most : Nat} {u0 u u' : Und} {ms : List Mov} {n : Nat} {m : Mov} (h : allMoves most u0 (ms.take n) = some u) (hm : ms[n]? = some m) (ho : oneMove most u m = some u') : allMoves most u0 (ms.take (n + 1)) = some u' := by
  rw [List.take_add_one, hm, Option.toList_some, allMoves_snoc, h, Option.bind_some, ho]

/-- What arc answers, in the words of moves. -/
theorem ArcOut.say {H wb mb : Nat} {T : TypeId} {r0 : Value} {most : Int} {so : Option Addr} {sc : Nat} {u : Und} {m : Mov} {W W' : World} {e : Ending} (h : ArcOut H wb mb T r0 most so sc u.states (u.cnt + 1) m W e W') (hwk : WK H W wb mb T r0 most so sc u.states (u.cnt + 1)) (hc : ¬ 262144 < u.cnt + 1) (h0 : 0 ≤ most) :
    (∃ ax : AX, e = .returned (.tuple #[ax.val, .bool false]) ∧ oneMove most.toNat u m = none ∧ Nu W W') ∨
    ∃ (ax : AX) (ss' : List ByteArray) (so' : Option Addr) (sc' : Nat), e = .returned (.tuple #[ax.val, .bool true]) ∧ WK H W' wb mb T r0 most so' sc' ss' (u.cnt + 1) ∧ Mv (WS wb mb so u.states.length sc) W W' ∧ (∀ b, WS wb mb so' ss'.length sc' b → WS wb mb so u.states.length sc b ∨ W.heap.size ≤ b) ∧ AXOwn W' W.heap.size ax ∧ oneMove most.toNat u m = some ⟨ss', u.cnt + 1, u.arcs ++ [ax.a]⟩ := by
  rcases h with ⟨ax, k, hk, rfl, ha, ho, hn⟩ | ⟨hb, hp, hl, ⟨ax, rfl⟩, hn⟩ | ⟨hb, hp, hl, ax, rfl, ha, ho, so', sc', hwk', hm, hws⟩
  · refine .inr ⟨ax, u.states, so, sc, rfl, hwk.nu hn, hn.mono (fun _ h => h.elim), fun b hb => .inl hb, ho, ?_⟩
    unfold oneMove
    by_cases hb : m.bad = 0
    · rw [if_pos hb] at hk ⊢
      rw [hk]
      simp only
      rw [if_neg hc, ha]
    · rw [if_neg hb] at hk ⊢
      subst hk
      rw [if_neg hc, ha]
  · refine .inl ⟨ax, rfl, ?_, hn⟩
    unfold oneMove
    rw [if_pos hb, hp]
    simp only
    rw [if_pos (by omega)]
  · refine .inr ⟨ax, u.states ++ [m.to], so', sc', rfl, hwk', hm, hws, ho, ?_⟩
    unfold oneMove
    rw [if_pos hb, hp]
    simp only
    rw [if_neg (by omega), if_neg hc, ha]

end Go.Proofs.YtiinmaedmkgfoaaDoor
