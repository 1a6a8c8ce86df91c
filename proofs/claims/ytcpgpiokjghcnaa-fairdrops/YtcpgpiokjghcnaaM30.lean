/-
  NMove, PrMove, NLook.
-/
import Derived.Test.YtcpgpiokjghcnaaM29
/-
  A move of a graph: the program's move.
-/
set_option linter.unusedVariables false
set_option linter.unusedSimpArgs false
namespace Go.Proofs.Ytcpgpiokjghcnaa
open Go.RowKit

section
variable {o : Oper} {a : Act} {w : World} {K : Act → World → Prop} {Q : Exit → Act → World → Prop} {d : Nat}

theorem lk_nilP {s b f : Nat} (hd : o.dst = some d) (ho : o.op = .nilCheck (.tmp s)) (hs : a.tmps[s]? = some (.pointer (some ⟨b, f, none⟩))) (hK : ∀ w', Nu w w' → K ⟨a.tmps.setIfInBounds d (.pointer (some ⟨b, f, none⟩)), a.defers⟩ w') : Oper.wp Try.prog o a w K Q := by
  have he : a.eval (.tmp s) = .pointer (some ⟨b, f, none⟩) := by simp [Act.eval, hs]
  unfold Oper.wp execOp
  simp only [ho, he, hd]
  go_simp
  exact hK w (Mv.refl _ _)
theorem lk_fieldM6 {s b : Nat} (hd : o.dst = some d) (ho : o.op = .fieldAddr 44 (.tmp s) 6) (hs : a.tmps[s]? = some (.pointer (some ⟨b, 0, none⟩))) (hK : ∀ w', Nu w w' → K ⟨a.tmps.setIfInBounds d (.pointer (some ⟨b, 6, none⟩)), a.defers⟩ w') : Oper.wp Try.prog o a w K Q := by
  have he : a.eval (.tmp s) = .pointer (some ⟨b, 0, none⟩) := by simp [Act.eval, hs]
  unfold Oper.wp execOp
  simp only [ho, he, hd]
  go_simp
  exact hK w (Mv.refl _ _)
theorem lk_fieldM7 {s b : Nat} (hd : o.dst = some d) (ho : o.op = .fieldAddr 44 (.tmp s) 7) (hs : a.tmps[s]? = some (.pointer (some ⟨b, 0, none⟩))) (hK : ∀ w', Nu w w' → K ⟨a.tmps.setIfInBounds d (.pointer (some ⟨b, 7, none⟩)), a.defers⟩ w') : Oper.wp Try.prog o a w K Q := by
  have he : a.eval (.tmp s) = .pointer (some ⟨b, 0, none⟩) := by simp [Act.eval, hs]
  unfold Oper.wp execOp
  simp only [ho, he, hd]
  go_simp
  exact hK w (Mv.refl _ _)
theorem lk_fieldA0 {s b f : Nat} (hd : o.dst = some d) (ho : o.op = .fieldAddr 69 (.tmp s) 0) (hs : a.tmps[s]? = some (.pointer (some ⟨b, f, none⟩))) (hK : ∀ w', Nu w w' → K ⟨a.tmps.setIfInBounds d (.pointer (some ⟨b, f, none⟩)), a.defers⟩ w') : Oper.wp Try.prog o a w K Q := by
  have he : a.eval (.tmp s) = .pointer (some ⟨b, f, none⟩) := by simp [Act.eval, hs]
  unfold Oper.wp execOp
  simp only [ho, he, hd]
  go_simp
  exact hK w (Mv.refl _ _)
theorem lk_fieldA2 {s b f : Nat} (hd : o.dst = some d) (ho : o.op = .fieldAddr 69 (.tmp s) 2) (hs : a.tmps[s]? = some (.pointer (some ⟨b, f, none⟩))) (hK : ∀ w', Nu w w' → K ⟨a.tmps.setIfInBounds d (.pointer (some ⟨b, f + 2, none⟩)), a.defers⟩ w') : Oper.wp Try.prog o a w K Q := by
  have he : a.eval (.tmp s) = .pointer (some ⟨b, f, none⟩) := by simp [Act.eval, hs]
  unfold Oper.wp execOp
  simp only [ho, he, hd]
  go_simp
  exact hK w (Mv.refl _ _)
theorem lk_fieldA5 {s b f : Nat} (hd : o.dst = some d) (ho : o.op = .fieldAddr 69 (.tmp s) 5) (hs : a.tmps[s]? = some (.pointer (some ⟨b, f, none⟩))) (hK : ∀ w', Nu w w' → K ⟨a.tmps.setIfInBounds d (.pointer (some ⟨b, f + 5, none⟩)), a.defers⟩ w') : Oper.wp Try.prog o a w K Q := by
  have he : a.eval (.tmp s) = .pointer (some ⟨b, f, none⟩) := by simp [Act.eval, hs]
  unfold Oper.wp execOp
  simp only [ho, he, hd]
  go_simp
  exact hK w (Mv.refl _ _)
theorem lk_loadN {s b f : Nat} {v : Value} (hd : o.dst = some d) (ho : o.op = .load 3 (.tmp s)) (hs : a.tmps[s]? = some (.pointer (some ⟨b, f, none⟩))) (h0 : w.cell? ⟨b, f, none⟩ = some v) (hK : ∀ w', Nu w w' → K ⟨a.tmps.setIfInBounds d v, a.defers⟩ w') : Oper.wp Try.prog o a w K Q := by
  have he : a.eval (.tmp s) = .pointer (some ⟨b, f, none⟩) := by simp [Act.eval, hs]
  unfold Oper.wp execOp
  simp only [ho, he, hd]
  go_simp
  exact hK w (Mv.refl _ _)
theorem lk_loadU {s b f : Nat} {v : Value} (hd : o.dst = some d) (ho : o.op = .load 39 (.tmp s)) (hs : a.tmps[s]? = some (.pointer (some ⟨b, f, none⟩))) (h0 : w.cell? ⟨b, f, none⟩ = some v) (hK : ∀ w', Nu w w' → K ⟨a.tmps.setIfInBounds d v, a.defers⟩ w') : Oper.wp Try.prog o a w K Q := by
  have he : a.eval (.tmp s) = .pointer (some ⟨b, f, none⟩) := by simp [Act.eval, hs]
  unfold Oper.wp execOp
  simp only [ho, he, hd]
  go_simp
  exact hK w (Mv.refl _ _)

theorem lk_allocM (hd : o.dst = some d) (ho : o.op = .alloc 44) (hK : K ⟨a.tmps.setIfInBounds d (.pointer (some ⟨w.heap.size, 0, none⟩)), a.defers⟩ (w.alloc (.cells #[.int .i64 0, .int .i64 0, .int .i64 0, .int .i64 0, .string ⟨#[]⟩, .int .i64 0, .slice none 0 0, .slice none 0 0, .int .u64 0] 44))) : Oper.wp Try.prog o a w K Q := by
  unfold Oper.wp execOp
  simp only [ho, hd]
  go_simp
  exact hK

theorem lk_buildM {s0 s1 s5 s8 : Nat} {p k b t : Int} (hd : o.dst = some d) (ho : o.op = .build 44 #[(0, .tmp s0), (1, .tmp s1), (2, .const (.int .i64 (-1))), (3, .const (.int .i64 (-1))), (5, .tmp s5), (8, .tmp s8)]) (h0 : a.tmps[s0]? = some (.int .i64 p)) (h1 : a.tmps[s1]? = some (.int .i64 k)) (h5 : a.tmps[s5]? = some (.int .i64 b)) (h8 : a.tmps[s8]? = some (.int .u64 t))
    (hK : ∀ w', Nu w w' → K ⟨a.tmps.setIfInBounds d (.agg #[.int .i64 p, .int .i64 k, .int .i64 (-1), .int .i64 (-1), .string ⟨#[]⟩, .int .i64 b, .slice none 0 0, .slice none 0 0, .int .u64 t]), a.defers⟩ w') : Oper.wp Try.prog o a w K Q := by
  have e0 : a.eval (.tmp s0) = .int .i64 p := by simp [Act.eval, h0]
  have e1 : a.eval (.tmp s1) = .int .i64 k := by simp [Act.eval, h1]
  have e5 : a.eval (.tmp s5) = .int .i64 b := by simp [Act.eval, h5]
  have e8 : a.eval (.tmp s8) = .int .u64 t := by simp [Act.eval, h8]
  unfold Oper.wp execOp
  simp only [ho, hd]
  go_simp
  exact hK w (Mv.refl _ _)

set_option maxHeartbeats 2000000 in
theorem lk_storeM {s r nb : Nat} {z0 z1 z2 z3 z4 z5 z6 z7 z8 : Value} {p k b t : Int} (hd : o.dst = none) (ho : o.op = .store 44 (.tmp s) (.tmp r)) (hs : a.tmps[s]? = some (.pointer (some ⟨nb, 0, none⟩))) (hr : a.tmps[r]? = some (.agg #[.int .i64 p, .int .i64 k, .int .i64 (-1), .int .i64 (-1), .string ⟨#[]⟩, .int .i64 b, .slice none 0 0, .slice none 0 0, .int .u64 t])) (hb : w.heap[nb]? = some (.cells #[z0, z1, z2, z3, z4, z5, z6, z7, z8] 44 (0, 0)))
    (hK : ∀ w', w'.heap[nb]? = some (.cells #[.int .i64 p, .int .i64 k, .int .i64 (-1), .int .i64 (-1), .string ⟨#[]⟩, .int .i64 b, .slice none 0 0, .slice none 0 0, .int .u64 t] 44 (0, 0)) → Mv (· = nb) w w' → K a w') : Oper.wp Try.prog o a w K Q := by
  have hes : a.eval (.tmp s) = .pointer (some ⟨nb, 0, none⟩) := by simp [Act.eval, hs]
  have her : a.eval (.tmp r) = .agg #[.int .i64 p, .int .i64 k, .int .i64 (-1), .int .i64 (-1), .string ⟨#[]⟩, .int .i64 b, .slice none 0 0, .slice none 0 0, .int .u64 t] := by simp [Act.eval, hr]
  have d0 := cell_blk hb 0
  have d1 := cell_blk hb 1
  have d2 := cell_blk hb 2
  have d3 := cell_blk hb 3
  have d4 := cell_blk hb 4
  have d5 := cell_blk hb 5
  have d6 := cell_blk hb 6
  have d7 := cell_blk hb 7
  have d8 := cell_blk hb 8
  simp only [List.size_toArray, List.length_cons, List.length_nil, Nat.reduceAdd, Nat.lt_add_one, Nat.reduceLT, getElem?_pos, List.getElem_toArray, List.getElem_cons_zero, List.getElem_cons_succ, Nat.zero_lt_succ] at d0 d1 d2 d3 d4 d5 d6 d7 d8
  have f0 := free_blk hb 0
  have f1 := free_blk hb 1
  have f2 := free_blk hb 2
  have f3 := free_blk hb 3
  have f4 := free_blk hb 4
  have f5 := free_blk hb 5
  have f6 := free_blk hb 6
  have f7 := free_blk hb 7
  have f8 := free_blk hb 8
  unfold Oper.wp execOp
  simp only [ho, hd, hes, her]
  go_simp
  have h0 := setCell_blk (i := 0) (u := .int .i64 p) hb
  have h1 := setCell_blk (i := 1) (u := .int .i64 k) h0
  have h2 := setCell_blk (i := 2) (u := .int .i64 (-1)) h1
  have h3 := setCell_blk (i := 3) (u := .int .i64 (-1)) h2
  have h4 := setCell_blk (i := 4) (u := .string ⟨#[]⟩) h3
  have h5 := setCell_blk (i := 5) (u := .int .i64 b) h4
  have h6 := setCell_blk (i := 6) (u := .slice none 0 0) h5
  have h7 := setCell_blk (i := 7) (u := .slice none 0 0) h6
  have h8 := setCell_blk (i := 8) (u := .int .u64 t) h7
  simp only [List.setIfInBounds_toArray, List.set_cons_succ, List.set_cons_zero] at h8
  refine hK _ h8 ?_
  have m (W : World) (i : Nat) (u : Value) : Mv (· = nb) W (W.setCell ⟨nb, i, none⟩ u) := Mv.setCell W ⟨nb, i, none⟩ u
  have t2 {A B C : World} (h : Mv (· = nb) A B) (k : Mv (· = nb) B C) : Mv (· = nb) A C := h.trans k (fun _ h => .inl h)
  exact t2 (t2 (t2 (t2 (t2 (t2 (t2 (t2 (m _ _ _) (m _ _ _)) (m _ _ _)) (m _ _ _)) (m _ _ _)) (m _ _ _)) (m _ _ _)) (m _ _ _)) (m _ _ _)

end

def RM (b o ob : Nat) (x : AX) (H : Nat) : Nat → World → Value → Prop
  | 0, _, v => v = .pointer (some ⟨b, o, none⟩)
  | 1, _, v => v = .pointer (some ⟨b, o, none⟩)
  | 2, _, v => v = .pointer (some ⟨b, o + 3, none⟩)
  | 3, _, v => v = .slice x.ra x.a.reads.length x.rc
  | 4, w, v => ∃ ra rc, v = .slice ra x.a.reads.length rc ∧ Fr w H ob ra rc x.a.reads
  | 5, _, v => v = .pointer (some ⟨b, o, none⟩)
  | 6, _, v => v = .pointer (some ⟨b, o, none⟩)
  | 7, _, v => v = .pointer (some ⟨b, o + 4, none⟩)
  | 8, _, v => v = .slice x.wa x.a.writes.length x.wc
  | 9, w, v => ∃ ra rc, v = .slice ra x.a.writes.length rc ∧ Fr w H ob ra rc x.a.writes
  | 10, _, v => v = .pointer (some ⟨ob, 6, none⟩)
  | 12, _, v => v = .pointer (some ⟨ob, 7, none⟩)
  | _, _, v => v = undef
theorem RM.mv {b o ob : Nat} {x : AX} {H : Nat} : ∀ (i : Nat) (w w' : World) (v : Value), Mv (· = ob) w w' → RM b o ob x H i w v → RM b o ob x H i w' v := by
  intro i w w' v hn h
  unfold RM at h ⊢
  split <;> simp only at h <;> first
    | exact h
    | (obtain ⟨ra, rc, h1, h2⟩ := h; exact ⟨ra, rc, h1, h2.mv hn⟩)

def JM (H ob : Nat) (x : AX) (k : Int) (l : Array Bool) (w : World) : Prop :=
  ∃ rv wv, w.heap[ob]? = some (.cells #[.int .i64 x.a.proc, .int .i64 k, .int .i64 (-1), .int .i64 (-1), .string ⟨#[]⟩, .int .i64 x.a.bad, rv, wv, .int .u64 x.a.turns] 44 (0, 0)) ∧
    (l.getD 11 false = true → ∃ ra rc, rv = .slice ra x.a.reads.length rc ∧ Fr w H ob ra rc x.a.reads) ∧ (l.getD 13 false = true → ∃ wa wc, wv = .slice wa x.a.writes.length wc ∧ Fr w H ob wa wc x.a.writes)
theorem JM.nu {H ob : Nat} {x : AX} {k : Int} {l : Array Bool} {w w' : World} (h : JM H ob x k l w) (hm : Nu w w') {i : Nat} (hp : 11 ≠ i) (hq : 13 ≠ i) : JM H ob x k (l.setIfInBounds i true) w' := by
  obtain ⟨rv, wv, h1, h2, h3⟩ := h
  have hm' : Mv (· = ob) w w' := hm.mono (fun _ h => h.elim)
  exact ⟨rv, wv, hm.heap h1 id, fun e => by obtain ⟨ra, rc, h4, h5⟩ := h2 (by rwa [getD_set_ne hp] at e); exact ⟨ra, rc, h4, h5.mv hm'⟩, fun e => by obtain ⟨ra, rc, h4, h5⟩ := h3 (by rwa [getD_set_ne hq] at e); exact ⟨ra, rc, h4, h5.mv hm'⟩⟩
theorem JM.storeP {H ob : Nat} {x : AX} {k : Int} {l : Array Bool} {w : World} (h : JM H ob x k l w) {ra : Option Addr} {rc : Nat} (hf : Fr w H ob ra rc x.a.reads) : JM H ob x k (l.setIfInBounds 11 true) (w.setCell ⟨ob, 6, none⟩ (.slice ra x.a.reads.length rc)) := by
  obtain ⟨rv, wv, h1, h2, h3⟩ := h
  have hm : Mv (· = ob) w (w.setCell ⟨ob, 6, none⟩ (.slice ra x.a.reads.length rc)) := Mv.setCell w ⟨ob, 6, none⟩ _
  exact ⟨_, wv, setCell_blk h1, fun _ => ⟨ra, rc, rfl, hf.mv hm⟩, fun e => by obtain ⟨ra, rc, h4, h5⟩ := h3 (by rwa [getD_set_ne (by decide)] at e); exact ⟨ra, rc, h4, h5.mv hm⟩⟩
theorem JM.storeQ {H ob : Nat} {x : AX} {k : Int} {l : Array Bool} {w : World} (h : JM H ob x k l w) {ra : Option Addr} {rc : Nat} (hf : Fr w H ob ra rc x.a.writes) : JM H ob x k (l.setIfInBounds 13 true) (w.setCell ⟨ob, 7, none⟩ (.slice ra x.a.writes.length rc)) := by
  obtain ⟨rv, wv, h1, h2, h3⟩ := h
  have hm : Mv (· = ob) w (w.setCell ⟨ob, 7, none⟩ (.slice ra x.a.writes.length rc)) := Mv.setCell w ⟨ob, 7, none⟩ _
  exact ⟨rv, _, setCell_blk h1, fun e => by obtain ⟨ra, rc, h4, h5⟩ := h2 (by rwa [getD_set_ne (by decide)] at e); exact ⟨ra, rc, h4, h5.mv hm⟩, fun _ => ⟨ra, rc, rfl, hf.mv hm⟩⟩

def R1M (b o : Nat) (x : AX) (k : Int) (H : Nat) : Nat → World → Value → Prop
  | 0, _, v => v = .pointer (some ⟨b, o, none⟩)
  | 1, _, v => v = .pointer (some ⟨b, o, none⟩)
  | 2, _, v => v = .pointer (some ⟨b, o, none⟩)
  | 3, _, v => v = .int .i64 x.a.proc
  | 4, _, v => v = .int .i64 k
  | 5, _, v => v = .pointer (some ⟨b, o, none⟩)
  | 6, _, v => v = .pointer (some ⟨b, o, none⟩)
  | 7, _, v => v = .pointer (some ⟨b, o + 2, none⟩)
  | 8, _, v => v = .int .i64 x.a.bad
  | 9, _, v => v = .pointer (some ⟨b, o, none⟩)
  | 10, _, v => v = .pointer (some ⟨b, o, none⟩)
  | 11, _, v => v = .pointer (some ⟨b, o + 5, none⟩)
  | 12, _, v => v = .int .u64 x.a.turns
  | 13, _, v => v = .agg #[.int .i64 x.a.proc, .int .i64 k, .int .i64 (-1), .int .i64 (-1), .string ⟨#[]⟩, .int .i64 x.a.bad, .slice none 0 0, .slice none 0 0, .int .u64 x.a.turns]
  | 14, w, v => ∃ nb, v = .pointer (some ⟨nb, 0, none⟩) ∧ w.heap[nb]? = some (.cells #[.int .i64 0, .int .i64 0, .int .i64 0, .int .i64 0, .string ⟨#[]⟩, .int .i64 0, .slice none 0 0, .slice none 0 0, .int .u64 0] 44 (0, 0)) ∧ H ≤ nb
  | _, _, v => v = undef
theorem R1M.nu {b o : Nat} {x : AX} {k : Int} {H : Nat} : ∀ (i : Nat) (w w' : World) (v : Value), Nu w w' → R1M b o x k H i w v → R1M b o x k H i w' v := by
  intro i w w' v hn h
  unfold R1M at h ⊢
  split <;> simp only at h <;> first
    | exact h
    | (obtain ⟨nb, h1, h2, h3⟩ := h; exact ⟨nb, h1, hn.heap h2 id, h3⟩)

theorem cells9 {w : World} {b : Nat} {t : TypeId} {v0 v1 v2 v3 v4 v5 v6 v7 v8 : Value} (h : w.heap[b]? = some (.cells #[v0, v1, v2, v3, v4, v5, v6, v7, v8] t (0, 0))) :
    w.cell? ⟨b, 0, none⟩ = some v0 ∧ w.cell? ⟨b, 1, none⟩ = some v1 ∧ w.cell? ⟨b, 2, none⟩ = some v2 ∧ w.cell? ⟨b, 3, none⟩ = some v3 ∧ w.cell? ⟨b, 4, none⟩ = some v4 ∧ w.cell? ⟨b, 5, none⟩ = some v5 ∧ w.cell? ⟨b, 6, none⟩ = some v6 ∧ w.cell? ⟨b, 7, none⟩ = some v7 ∧ w.cell? ⟨b, 8, none⟩ = some v8 :=
  ⟨cell_blk h 0, cell_blk h 1, cell_blk h 2, cell_blk h 3, cell_blk h 4, cell_blk h 5, cell_blk h 6, cell_blk h 7, cell_blk h 8⟩
theorem frees9 {w : World} {b : Nat} {t : TypeId} {cs : Array Value} (h : w.heap[b]? = some (.cells cs t (0, 0))) :
    w.frozen? ⟨b, 0, none⟩ = false ∧ w.frozen? ⟨b, 1, none⟩ = false ∧ w.frozen? ⟨b, 2, none⟩ = false ∧ w.frozen? ⟨b, 3, none⟩ = false ∧ w.frozen? ⟨b, 4, none⟩ = false ∧ w.frozen? ⟨b, 5, none⟩ = false ∧ w.frozen? ⟨b, 6, none⟩ = false ∧ w.frozen? ⟨b, 7, none⟩ = false ∧ w.frozen? ⟨b, 8, none⟩ = false :=
  ⟨free_blk h 0, free_blk h 1, free_blk h 2, free_blk h 3, free_blk h 4, free_blk h 5, free_blk h 6, free_blk h 7, free_blk h 8⟩

theorem set9 {w : World} {b : Nat} {t : TypeId} {z0 z1 z2 z3 z4 z5 z6 z7 z8 v0 v1 v2 v3 v4 v5 v6 v7 v8 : Value} (h : w.heap[b]? = some (.cells #[z0, z1, z2, z3, z4, z5, z6, z7, z8] t (0, 0))) :
    (((((((((w.setCell ⟨b, 0, none⟩ v0).setCell ⟨b, 1, none⟩ v1).setCell ⟨b, 2, none⟩ v2).setCell ⟨b, 3, none⟩ v3).setCell ⟨b, 4, none⟩ v4).setCell ⟨b, 5, none⟩ v5).setCell ⟨b, 6, none⟩ v6).setCell ⟨b, 7, none⟩ v7).setCell ⟨b, 8, none⟩ v8).heap[b]? = some (.cells #[v0, v1, v2, v3, v4, v5, v6, v7, v8] t (0, 0)) ∧
    Mv (· = b) w (((((((((w.setCell ⟨b, 0, none⟩ v0).setCell ⟨b, 1, none⟩ v1).setCell ⟨b, 2, none⟩ v2).setCell ⟨b, 3, none⟩ v3).setCell ⟨b, 4, none⟩ v4).setCell ⟨b, 5, none⟩ v5).setCell ⟨b, 6, none⟩ v6).setCell ⟨b, 7, none⟩ v7).setCell ⟨b, 8, none⟩ v8) := by
  have h0 := setCell_blk (i := 0) (u := v0) h
  have h1 := setCell_blk (i := 1) (u := v1) h0
  have h2 := setCell_blk (i := 2) (u := v2) h1
  have h3 := setCell_blk (i := 3) (u := v3) h2
  have h4 := setCell_blk (i := 4) (u := v4) h3
  have h5 := setCell_blk (i := 5) (u := v5) h4
  have h6 := setCell_blk (i := 6) (u := v6) h5
  have h7 := setCell_blk (i := 7) (u := v7) h6
  have h8 := setCell_blk (i := 8) (u := v8) h7
  simp only [List.setIfInBounds_toArray, List.set_cons_succ, List.set_cons_zero] at h8
  refine ⟨h8, ?_⟩
  have m (W : World) (i : Nat) (u : Value) : Mv (· = b) W (W.setCell ⟨b, i, none⟩ u) := Mv.setCell W ⟨b, i, none⟩ u
  have t2 {A B C : World} (h : Mv (· = b) A B) (k : Mv (· = b) B C) : Mv (· = b) A C := h.trans k (fun _ h => .inl h)
  exact t2 (t2 (t2 (t2 (t2 (t2 (t2 (t2 (m _ _ _) (m _ _ _)) (m _ _ _)) (m _ _ _)) (m _ _ _)) (m _ _ _)) (m _ _ _)) (m _ _ _)) (m _ _ _)

/-- What move hands over. -/
def MoveOut (w : World) (k : Nat) (x : Arc) (e : Ending) (w' : World) : Prop := Nu w w' ∧ ∃ y : X, e = .returned y.val ∧ y.m = movOf k x ∧ XOwn w' w.heap.size y

theorem move_out {w w9 w10 : World} {k H : Nat} {x : Arc} {to : ByteArray} {ra wa : Option Addr} {rc wc : Nat} (hn : Nu w w9) (hr : OwnI w9 H ra rc x.reads) (hw : OwnI w9 H wa wc x.writes) (hH : w.heap.size < H) (hm : Mv (· = w.heap.size) w9 w10) (ht : to = (movOf k x).to) :
    MoveOut w k x (.returned (.agg #[.int .i64 x.proc, .int .i64 (k : Int), .int .i64 (-1), .int .i64 (-1), .string to, .int .i64 x.bad, .slice ra x.reads.length rc, .slice wa x.writes.length wc, .int .u64 x.turns])) w10 := by
  subst ht
  refine ⟨hn.trans hm (fun x hx => .inr (by omega)), ⟨movOf k x, ra, rc, wa, wc⟩, rfl, rfl, hr.mv hm (fun a hp ha e => ?_) (by omega), hw.mv hm (fun a hp ha e => ?_) (by omega)⟩
  · rcases hr.row with h0 | ⟨g, cs, hg, hh, _⟩
    · omega
    · rw [hg] at ha; cases ha; simp only at e; omega
  · rcases hw.row with h0 | ⟨g, cs, hg, hh, _⟩
    · omega
    · rw [hg] at ha; cases ha; simp only at e; omega

set_option maxHeartbeats 8000000 in
set_option maxRecDepth 40000 in
theorem move_any (w : World) (gv : Value) (k b o : Nat) (x : AX) (hat : AXAt w b o x) (hr : IntsAt w w.heap.size x.ra x.a.reads) (hw : IntsAt w w.heap.size x.wa x.a.writes) (ht : x.a.bad = 0 → 0 ≤ x.a.to ∧ x.a.to < 20000) :
    Calls Try.prog 62 #[gv, .int .i64 (k : Int), .pointer (some ⟨b, o, none⟩)] w (MoveOut w k x.a) := by
  obtain ⟨c0, c1, c2, c3, c4, c5⟩ := hat
  have hb : b < w.heap.size := World.block_lt_of_cell? w _ c0
  have HRI := hid hr
  have HWI := hid hw
  have HTO := hid ht
  have HAT : Hid (AXAt w b o x) := ⟨c0, c1, c2, c3, c4, c5⟩
  have HBB := hid hb
  clear hr hw ht
  go_enter Try.func62, Try.ntmps62
  go_upto_region 1 with fail
  have HN1 : Hid (Nu w (w.alloc (.cells #[.int .i64 0, .int .i64 0, .int .i64 0, .int .i64 0, .string ⟨#[]⟩, .int .i64 0, .slice none 0 0, .slice none 0 0, .int .u64 0] 44))) := Mv.alloc _ _ _
  have HA1 : Hid ((w.alloc (.cells #[.int .i64 0, .int .i64 0, .int .i64 0, .int .i64 0, .string ⟨#[]⟩, .int .i64 0, .slice none 0 0, .slice none 0 0, .int .u64 0] 44)).heap[w.heap.size]? = some (.cells #[.int .i64 0, .int .i64 0, .int .i64 0, .int .i64 0, .string ⟨#[]⟩, .int .i64 0, .slice none 0 0, .slice none 0 0, .int .u64 0] 44 (0, 0))) := heap_alloc_new w _
  have HZ1 : Hid ((w.alloc (.cells #[.int .i64 0, .int .i64 0, .int .i64 0, .int .i64 0, .string ⟨#[]⟩, .int .i64 0, .slice none 0 0, .slice none 0 0, .int .u64 0] 44)).heap.size = w.heap.size + 1) := World.size_alloc _ _
  generalize w.alloc (.cells #[.int .i64 0, .int .i64 0, .int .i64 0, .int .i64 0, .string ⟨#[]⟩, .int .i64 0, .slice none 0 0, .slice none 0 0, .int .u64 0] 44) = w1 at *
  replace c0 := cell_mv HN1.out c0 id
  replace c1 := cell_mv HN1.out c1 id
  replace c2 := cell_mv HN1.out c2 id
  replace c3 := cell_mv HN1.out c3 id
  replace c4 := cell_mv HN1.out c4 id
  replace c5 := cell_mv HN1.out c5 id
  rename_i KC hKC
  refine wp_lookS (R1M b o x (k : Int) w1.heap.size) R1M.nu (by kernel_rfl) (by kernel_rfl) ?step ?last
  case step =>
    intro i p d a w' ho hd hn hfr had K hK
    have hi : i < 16 := (Array.getElem?_eq_some_iff.1 ho).1
    have f1 := hfr 1 (by kernel_rfl)
    have f2 := hfr 2 (by kernel_rfl)
    have : i = 0 ∨ i = 1 ∨ i = 2 ∨ i = 3 ∨ i = 4 ∨ i = 5 ∨ i = 6 ∨ i = 7 ∨ i = 8 ∨ i = 9 ∨ i = 10 ∨ i = 11 ∨ i = 12 ∨ i = 13 ∨ i = 14 ∨ i = 15 := by omega
    rcases this with rfl | rfl | rfl | rfl | rfl | rfl | rfl | rfl | rfl | rfl | rfl | rfl | rfl | rfl | rfl | rfl <;> cases ho <;> cases hd
    · exact ite_yes (want_none rfl) (lk_move rfl rfl f2 (fun w' hm => hK w' _ hm rfl))
    · obtain ⟨⟨_, h0, rfl⟩, _⟩ := had; exact ite_yes (want_none rfl) (lk_nilP rfl rfl h0 (fun w' hm => hK w' _ hm rfl))
    · obtain ⟨⟨_, h0, rfl⟩, _⟩ := had; exact ite_yes (want_none rfl) (lk_fieldA0 rfl rfl h0 (fun w' hm => hK w' _ hm rfl))
    · obtain ⟨⟨_, h0, rfl⟩, _⟩ := had; exact ite_yes (want_none rfl) (lk_loadN rfl rfl h0 (cell_mv hn c0 id) (fun w' hm => hK w' _ hm rfl))
    · exact ite_yes (want_none rfl) (lk_move rfl rfl f1 (fun w' hm => hK w' _ hm rfl))
    · exact ite_yes (want_none rfl) (lk_move rfl rfl f2 (fun w' hm => hK w' _ hm rfl))
    · obtain ⟨⟨_, h0, rfl⟩, _⟩ := had; exact ite_yes (want_none rfl) (lk_nilP rfl rfl h0 (fun w' hm => hK w' _ hm rfl))
    · obtain ⟨⟨_, h0, rfl⟩, _⟩ := had; exact ite_yes (want_none rfl) (lk_fieldA2 rfl rfl h0 (fun w' hm => hK w' _ hm rfl))
    · obtain ⟨⟨_, h0, rfl⟩, _⟩ := had; exact ite_yes (want_none rfl) (lk_loadN rfl rfl h0 (cell_mv hn c2 id) (fun w' hm => hK w' _ hm rfl))
    · exact ite_yes (want_none rfl) (lk_move rfl rfl f2 (fun w' hm => hK w' _ hm rfl))
    · obtain ⟨⟨_, h0, rfl⟩, _⟩ := had; exact ite_yes (want_none rfl) (lk_nilP rfl rfl h0 (fun w' hm => hK w' _ hm rfl))
    · obtain ⟨⟨_, h0, rfl⟩, _⟩ := had; exact ite_yes (want_none rfl) (lk_fieldA5 rfl rfl h0 (fun w' hm => hK w' _ hm rfl))
    · obtain ⟨⟨_, h0, rfl⟩, _⟩ := had; exact ite_yes (want_none rfl) (lk_loadU rfl rfl h0 (cell_mv hn c5 id) (fun w' hm => hK w' _ hm rfl))
    · obtain ⟨⟨_, h0, rfl⟩, ⟨_, h1, rfl⟩, ⟨_, h2, rfl⟩, ⟨_, h3, rfl⟩, _⟩ := had; exact ite_yes (want_none rfl) (lk_buildM rfl rfl h0 h1 h2 h3 (fun w' hm => hK w' _ hm rfl))
    · exact ite_yes (want_none rfl) (lk_allocM rfl rfl (hK _ _ (Mv.alloc _ _ _) ⟨_, rfl, heap_alloc_new _ _, hn.size⟩))
  case last =>
    intro p a w5 ho hn5 hdf hsz hfr htv
    cases ho
    obtain ⟨v13, h13, rfl⟩ := htv 13 _ 21 rfl rfl
    obtain ⟨v14, h14, ob, rfl, hob, hobl⟩ := htv 14 _ 7 rfl rfl
    have htm := fill_eq (vals := fun i => ([.pointer (some ⟨b, o, none⟩), .pointer (some ⟨b, o, none⟩), .pointer (some ⟨b, o, none⟩), .int .i64 x.a.proc, .int .i64 (k : Int), .pointer (some ⟨b, o, none⟩), .pointer (some ⟨b, o, none⟩), .pointer (some ⟨b, o + 2, none⟩), .int .i64 x.a.bad, .pointer (some ⟨b, o, none⟩), .pointer (some ⟨b, o, none⟩), .pointer (some ⟨b, o + 5, none⟩), .int .u64 x.a.turns, .agg #[.int .i64 x.a.proc, .int .i64 (k : Int), .int .i64 (-1), .int .i64 (-1), .string ⟨#[]⟩, .int .i64 x.a.bad, .slice none 0 0, .slice none 0 0, .int .u64 x.a.turns], .pointer (some ⟨ob, 0, none⟩)] : List Value).getD i undef) (by kernel_rfl) hfr (fun i p d hi hd => by
      have hi' : i < 16 := (Array.getElem?_eq_some_iff.1 hi).1
      obtain ⟨v, h, hv⟩ := htv i p d hi hd
      have : i = 0 ∨ i = 1 ∨ i = 2 ∨ i = 3 ∨ i = 4 ∨ i = 5 ∨ i = 6 ∨ i = 7 ∨ i = 8 ∨ i = 9 ∨ i = 10 ∨ i = 11 ∨ i = 12 ∨ i = 13 ∨ i = 14 ∨ i = 15 := by omega
      rcases this with rfl | rfl | rfl | rfl | rfl | rfl | rfl | rfl | rfl | rfl | rfl | rfl | rfl | rfl | rfl | rfl <;> cases hi <;> cases hd <;> first | exact h14 | exact h.trans (congrArg some hv))
    refine lk_storeM rfl rfl h14 h13 hob (fun w6 hb6 hm6 => ?_)
    refine hKC _ _ ?_
    have HN6 : Hid (Nu w1 w6) := hn5.trans hm6 (fun x hx => .inr (by omega))
    have HB6 : Hid (w6.heap[ob]? = some (.cells #[.int .i64 x.a.proc, .int .i64 (k : Int), .int .i64 (-1), .int .i64 (-1), .string ⟨#[]⟩, .int .i64 x.a.bad, .slice none 0 0, .slice none 0 0, .int .u64 x.a.turns] 44 (0, 0))) := hb6
    have HOB := hid hobl
    rw [act_eq' htm hdf]
    clear htm hdf hn5 hsz hfr htv h13 h14 hob hb6 hm6 hobl hKC
    simp only [fill, List.getD_cons_succ, List.getD_cons_zero, List.setIfInBounds_toArray, List.set_cons_succ, List.set_cons_zero]
    replace c0 := cell_mv HN6.out c0 id
    replace c1 := cell_mv HN6.out c1 id
    replace c2 := cell_mv HN6.out c2 id
    replace c3 := cell_mv HN6.out c3 id
    replace c4 := cell_mv HN6.out c4 id
    replace c5 := cell_mv HN6.out c5 id
    go_upto_region 2 with fail
    have HBW : Hid (w.heap.size ≤ w1.heap.size ∧ w1.heap.size ≤ w6.heap.size ∧ ob < w6.heap.size) := ⟨HN1.out.size, HN6.out.size, lt_of_block HB6.out⟩
    have hbo : ¬ b = ob := by have := HBB.out; have := HOB.out; have := HN1.out.size; omega
    have HW6 : Hid (Below w.heap.size w w6) := (mv0 HN1.out HN6.out).nu_below
    have HRI2 : Hid (∀ W : World, Below w.heap.size w W → IntsAt W w.heap.size x.ra x.a.reads) := fun W hW => HRI.out.below hW (Nat.le_refl _)
    have HWI2 : Hid (∀ W : World, Below w.heap.size w W → IntsAt W w.heap.size x.wa x.a.writes) := fun W hW => HWI.out.below hW (Nat.le_refl _)
    have HOW : Hid (w.heap.size ≤ ob) := Nat.le_trans HN1.out.size HOB.out
    rename_i KC2 hKC2
    refine wp_regJ (· = ob) (RM b o ob x w6.heap.size) (JM w6.heap.size ob x (k : Int)) RM.mv ?hj (by kernel_rfl) (by kernel_rfl) ?h0 ?step2 ?store ?last2
    case hj =>
      intro l i p d w w' ho hd hm hJ
      exact hJ.nu hm (fun e => by subst e; cases ho; cases hd) (fun e => by subst e; cases ho; cases hd)
    case h0 => exact ⟨_, _, HB6.out, fun e => absurd e (by rw [getD_none]; simp), fun e => absurd e (by rw [getD_none]; simp)⟩
    case step2 =>
      intro l i p d a w' ho hd hl haft hcl hmv hJ hfr had K hK
      have hi : i < 14 := (Array.getElem?_eq_some_iff.1 ho).1
      have f2 := hfr 2 (by kernel_rfl)
      have f7 := hfr 7 (by kernel_rfl)
      have hbl : Below w.heap.size w w' := HW6.out.trans (hmv.below (Nat.le_trans HBW.out.1 HBW.out.2.1) (fun b hb => by subst hb; exact HOW.out))
      have hcp : ∀ {W : World} {ao' : Option Addr} {cap' : Nat} {ys : List Int}, OwnI W w'.heap.size ao' cap' ys → Fr W w6.heap.size ob ao' cap' ys := fun {W ao' cap' ys} h => by
        refine ⟨h.mv (Mv.refl (fun _ => False) _) (fun _ _ _ => id) hmv.size, fun a hp ha => ?_⟩
        rcases h.row with h0 | ⟨g', cs, hg', hh, _⟩
        · omega
        · rw [hg'] at ha; cases ha
          have := hmv.size
          have := HBW.out.2.2
          show g' ≠ ob
          omega
      have : i = 0 ∨ i = 1 ∨ i = 2 ∨ i = 3 ∨ i = 4 ∨ i = 5 ∨ i = 6 ∨ i = 7 ∨ i = 8 ∨ i = 9 ∨ i = 10 ∨ i = 11 ∨ i = 12 ∨ i = 13 := by omega
      rcases this with rfl | rfl | rfl | rfl | rfl | rfl | rfl | rfl | rfl | rfl | rfl | rfl | rfl | rfl <;> cases ho <;> cases hd
      · exact ite_yes (want_none rfl) (lk_move rfl rfl f2 (fun w' hm => hK w' _ hm rfl))
      · obtain ⟨⟨_, h0, rfl⟩, _⟩ := had; exact ite_yes (want_none rfl) (lk_nilP rfl rfl h0 (fun w' hm => hK w' _ hm rfl))
      · obtain ⟨⟨_, h0, rfl⟩, _⟩ := had; exact ite_yes (want_none rfl) (lk_fieldA3 rfl rfl h0 (fun w' hm => hK w' _ hm rfl))
      · obtain ⟨⟨_, h0, rfl⟩, _⟩ := had; exact ite_yes (want_none rfl) (lk_loadI rfl rfl h0 (cell_mv hmv c3 hbo) (fun w' hm => hK w' _ hm rfl))
      · obtain ⟨⟨_, h0, rfl⟩, _⟩ := had; exact ite_yes (want_none rfl) (lk_clone rfl rfl h0 (HRI2.out _ hbl) (fun w' ao' cap' hm hown => hK w' _ hm ⟨ao', cap', rfl, hcp hown⟩))
      · exact ite_yes (want_none rfl) (lk_move rfl rfl f2 (fun w' hm => hK w' _ hm rfl))
      · obtain ⟨⟨_, h0, rfl⟩, _⟩ := had; exact ite_yes (want_none rfl) (lk_nilP rfl rfl h0 (fun w' hm => hK w' _ hm rfl))
      · obtain ⟨⟨_, h0, rfl⟩, _⟩ := had; exact ite_yes (want_none rfl) (lk_fieldA4 rfl rfl h0 (fun w' hm => hK w' _ hm rfl))
      · obtain ⟨⟨_, h0, rfl⟩, _⟩ := had; exact ite_yes (want_none rfl) (lk_loadI rfl rfl h0 (cell_mv hmv c4 hbo) (fun w' hm => hK w' _ hm rfl))
      · obtain ⟨⟨_, h0, rfl⟩, _⟩ := had; exact ite_yes (want_none rfl) (lk_clone rfl rfl h0 (HWI2.out _ hbl) (fun w' ao' cap' hm hown => hK w' _ hm ⟨ao', cap', rfl, hcp hown⟩))
      · exact ite_yes (want_none rfl) (lk_fieldM6 rfl rfl f7 (fun w' hm => hK w' _ hm rfl))
      · exact ite_yes (want_none rfl) (lk_fieldM7 rfl rfl f7 (fun w' hm => hK w' _ hm rfl))
    case store =>
      intro l i p a w' ho hd hls haft hcl hmv hJ hfr had K hK
      have hi : i < 14 := (Array.getElem?_eq_some_iff.1 ho).1
      obtain ⟨rv, wv, hcb, _⟩ := id hJ
      have : i = 0 ∨ i = 1 ∨ i = 2 ∨ i = 3 ∨ i = 4 ∨ i = 5 ∨ i = 6 ∨ i = 7 ∨ i = 8 ∨ i = 9 ∨ i = 10 ∨ i = 11 ∨ i = 12 ∨ i = 13 := by omega
      rcases this with rfl | rfl | rfl | rfl | rfl | rfl | rfl | rfl | rfl | rfl | rfl | rfl | rfl | rfl <;> cases ho <;> first | (cases hd; done) | skip
      · obtain ⟨⟨_, h0, rfl⟩, ⟨_, h1, ra, rc, rfl, hf⟩, _⟩ := had
        exact lk_storeI rfl rfl h0 h1 hcb (by simp) (hK _ (Mv.setCell w' ⟨ob, 6, none⟩ _) (hJ.storeP hf))
      · obtain ⟨⟨_, h0, rfl⟩, ⟨_, h1, ra, rc, rfl, hf⟩, _⟩ := had
        exact lk_storeI rfl rfl h0 h1 hcb (by simp) (hK _ (Mv.setCell w' ⟨ob, 7, none⟩ _) (hJ.storeQ hf))
    case last2 =>
      intro l a w9 hls hall hmv hJ hdf hsz hfr htv
      obtain ⟨rv, wv, hcb, hj1, hj2⟩ := hJ
      obtain ⟨ra, rc, rfl, hra⟩ := hj1 (hall 11 (by decide))
      obtain ⟨wa, wc, rfl, hwa⟩ := hj2 (hall 13 (by decide))
      obtain ⟨v4, t4, r4, rc4, rfl, _⟩ := htv 4 _ 26 rfl rfl
      obtain ⟨v9, t9, r9, rc9, rfl, _⟩ := htv 9 _ 31 rfl rfl
      have htm := fill_eqN (vals := fun i => ([.pointer (some ⟨b, o, none⟩), .pointer (some ⟨b, o, none⟩), .pointer (some ⟨b, o + 3, none⟩), .slice x.ra x.a.reads.length x.rc, .slice r4 x.a.reads.length rc4, .pointer (some ⟨b, o, none⟩), .pointer (some ⟨b, o, none⟩), .pointer (some ⟨b, o + 4, none⟩), .slice x.wa x.a.writes.length x.wc, .slice r9 x.a.writes.length rc9, .pointer (some ⟨ob, 6, none⟩), undef, .pointer (some ⟨ob, 7, none⟩), undef] : List Value).getD i undef) (by kernel_rfl) hfr (fun i p d hi hd => by
        have hi' : i < 14 := (Array.getElem?_eq_some_iff.1 hi).1
        obtain ⟨v, h, hv⟩ := htv i p d hi hd
        have : i = 0 ∨ i = 1 ∨ i = 2 ∨ i = 3 ∨ i = 4 ∨ i = 5 ∨ i = 6 ∨ i = 7 ∨ i = 8 ∨ i = 9 ∨ i = 10 ∨ i = 11 ∨ i = 12 ∨ i = 13 := by omega
        rcases this with rfl | rfl | rfl | rfl | rfl | rfl | rfl | rfl | rfl | rfl | rfl | rfl | rfl | rfl <;> cases hi <;> cases hd <;> first | exact t4 | exact t9 | exact h.trans (congrArg some hv))
      refine hKC2 _ _ ?_
      have HB9 := hid hcb
      have HF9 := hid (And.intro hra hwa)
      have HM9 := hid hmv
      rw [act_eq' htm hdf]
      clear htm hdf hsz hfr htv t4 t9 hall hj1 hj2 hls hcb hra hwa hKC2 hmv
      simp only [fill, List.getD_cons_succ, List.getD_cons_zero, List.setIfInBounds_toArray, List.set_cons_succ, List.set_cons_zero]
      replace c1 := cell_mv HM9.out c1 hbo
      replace c2 := cell_mv HM9.out c2 hbo
      have HA9 : Hid (w9.heap[w.heap.size]? = some (.cells #[.int .i64 0, .int .i64 0, .int .i64 0, .int .i64 0, .string ⟨#[]⟩, .int .i64 0, .slice none 0 0, .slice none 0 0, .int .u64 0] 44 (0, 0))) := HM9.out.heap (HN6.out.heap HA1.out id) (fun e => by have := HOB.out; have := HZ1.out; omega)
      have HNW : Hid (Nu w w9) := (mv0 HN1.out HN6.out).trans HM9.out (fun x hx => .inr (by have := HOW.out; omega))
      have HSZ : Hid (w.heap.size < w6.heap.size) := by have := HBW.out.2.1; have := HZ1.out; show _ < _; omega
      by_cases hbad : x.a.bad = 0
      · obtain ⟨n, hn⟩ : ∃ n : Nat, x.a.to = (n : Int) := ⟨x.a.to.toNat, by have := HTO.out hbad; omega⟩
        have HNT : Hid (n < 20000 ∧ nst n = (movOf k x.a).to) := by
          have h1 := (HTO.out hbad).2
          refine ⟨by omega, ?_⟩
          show _ = if x.a.bad = 0 then nst x.a.to.toNat else _
          rw [if_pos hbad, hn]
          rfl
        rw [hn] at c1
        rw [hbad] at c2
        go_upto_region 4 with fail
        clear c2
        have HN10 : Hid (Nu w9 (w9.alloc (.cells #[.int .i64 (n : Int)] 3))) := Mv.alloc _ _ _
        have HI10 : Hid (IntsAt (w9.alloc (.cells #[.int .i64 (n : Int)] 3)) (w9.alloc (.cells #[.int .i64 (n : Int)] 3)).heap.size (some ⟨w9.heap.size, 0, none⟩) (ints [n])) := by
          have hb10 := heap_alloc_new w9 (.cells #[.int .i64 (n : Int)] 3)
          refine ⟨(show (1 : Int) ≤ 17592186044416 by decide), .inr ⟨w9.heap.size, 0, rfl, lt_of_block hb10, fun i hi => ?_⟩⟩
          obtain rfl : i = 0 := by simp [ints] at hi; omega
          exact cell_blk hb10 0
        go_upto_region 5 with (go_at_call 59; refine (bytesOf_walk _ _ _ 1 [n] HI10.out (by intro m hm; rw [List.mem_singleton.1 hm]; have := HNT.out.1; omega) (show 1 ≤ 1000 by decide)).mono ?_; rintro e w11 ⟨rfl, hn11⟩; have HN11 := hid (mv0 HN10.out hn11); have e4 := cell_blk (HN11.out.heap HB9.out id) 4; have z4' := free_blk (HN11.out.heap HB9.out id) 4; clear hn11)
        have HM12 : Hid (Mv (· = ob) w11 (w11.setCell ⟨ob, 4, none⟩ (.string (txt (encs [n]))))) := Mv.setCell w11 ⟨ob, 4, none⟩ _
        have HB12 : Hid ((w11.setCell ⟨ob, 4, none⟩ (.string (txt (encs [n])))).heap[ob]? = some (.cells #[.int .i64 x.a.proc, .int .i64 (k : Int), .int .i64 (-1), .int .i64 (-1), .string (txt (encs [n])), .int .i64 x.a.bad, .slice ra x.a.reads.length rc, .slice wa x.a.writes.length wc, .int .u64 x.a.turns] 44 (0, 0))) := setCell_blk (HN11.out.heap HB9.out id)
        have HA12 : Hid ((w11.setCell ⟨ob, 4, none⟩ (.string (txt (encs [n])))).heap[w.heap.size]? = some (.cells #[.int .i64 0, .int .i64 0, .int .i64 0, .int .i64 0, .string ⟨#[]⟩, .int .i64 0, .slice none 0 0, .slice none 0 0, .int .u64 0] 44 (0, 0))) := HM12.out.heap (HN11.out.heap HA9.out id) (fun e => by have := HOB.out; have := HZ1.out; omega)
        have HM13 : Hid (Mv (· = ob) w9 (w11.setCell ⟨ob, 4, none⟩ (.string (txt (encs [n]))))) := (HN11.out.mono (fun _ h => h.elim)).trans HM12.out (fun _ h => .inl h)
        generalize w11.setCell ⟨ob, 4, none⟩ (.string (txt (encs [n]))) = w12 at *
        clear e4 z4' HM12
        obtain ⟨p0, p1, p2, p3, p4, p5, p6, p7, p8⟩ := cells9 HB12.out
        obtain ⟨q0, q1, q2, q3, q4, q5, q6, q7, q8⟩ := cells9 HA12.out
        obtain ⟨z0, z1, z2, z3, z4, z5, z6, z7, z8⟩ := frees9 HA12.out
        have HBAD := hid hbad
        clear c1 hbad
        go_wp2
        obtain ⟨hset, hmset⟩ := set9 (v0 := .int .i64 x.a.proc) (v1 := .int .i64 (k : Int)) (v2 := .int .i64 (-1)) (v3 := .int .i64 (-1)) (v4 := .string (txt (encs [n]))) (v5 := .int .i64 x.a.bad) (v6 := .slice ra x.a.reads.length rc) (v7 := .slice wa x.a.writes.length wc) (v8 := .int .u64 x.a.turns) HA12.out
        refine bodyPost_ret (results_cell_row rfl _ _ w.heap.size 44 _ (0, 0) _ rfl hset Try.underlying44 rfl (by kernel_rfl)) rfl ?_
        refine move_out (HNW.out.trans HM13.out (fun x hx => .inr (by have := HOW.out; omega))) (HF9.out.1.mv HM13.out).1 (HF9.out.2.mv HM13.out).1 HSZ.out hmset ?_
        rw [← HNT.out.2]
        simp [encs, nst]
      · go_upto_region 5 with fail
        obtain ⟨p0, p1, p2, p3, p4, p5, p6, p7, p8⟩ := cells9 HB9.out
        obtain ⟨q0, q1, q2, q3, q4, q5, q6, q7, q8⟩ := cells9 HA9.out
        obtain ⟨z0, z1, z2, z3, z4, z5, z6, z7, z8⟩ := frees9 HA9.out
        go_wp2
        obtain ⟨hset, hmset⟩ := set9 (v0 := .int .i64 x.a.proc) (v1 := .int .i64 (k : Int)) (v2 := .int .i64 (-1)) (v3 := .int .i64 (-1)) (v4 := .string ⟨#[]⟩) (v5 := .int .i64 x.a.bad) (v6 := .slice ra x.a.reads.length rc) (v7 := .slice wa x.a.writes.length wc) (v8 := .int .u64 x.a.turns) HA9.out
        refine bodyPost_ret (results_cell_row rfl _ _ w.heap.size 44 _ (0, 0) _ rfl hset Try.underlying44 rfl (by kernel_rfl)) rfl ?_
        exact move_out HNW.out HF9.out.1.1 HF9.out.2.1 HSZ.out hmset (by unfold movOf; simp [hbad])

end Go.Proofs.Ytcpgpiokjghcnaa
/-
  numbered.Move: a move with a number's bytes ahead of where it leads; its lists are its own.
-/
set_option linter.unusedVariables false
set_option linter.unusedSimpArgs false
namespace Go.Proofs.Ytcpgpiokjghcnaa
open Go.RowKit

/-- A move with bytes ahead. -/
def numMv (n : ByteArray) (m : Mov) : Mov := if m.bad = 0 then { m with to := n ++ m.to } else m

def PMOut (w : World) (n : ByteArray) (m : Mov) (e : Ending) (w' : World) : Prop := Nu w w' ∧ ∃ y : X, e = .returned y.val ∧ y.m = numMv n m ∧ XOwn w' w.heap.size y

/-- What lies in the box of a move under way. -/
def mvCells (m : Mov) (to : ByteArray) (rv wv : Value) : Array Value := #[.int .i64 m.proc, .int .i64 m.edge, .int .i64 m.wth, .int .i64 m.wedge, .string to, .int .i64 m.bad, rv, wv, .int .u64 m.turns]

def RP (ob : Nat) (x : X) (H : Nat) : Nat → World → Value → Prop
  | 0, _, v => v = .pointer (some ⟨ob, 6, none⟩)
  | 1, _, v => v = .slice x.ra x.m.reads.length x.rc
  | 2, w, v => ∃ ra rc, v = .slice ra x.m.reads.length rc ∧ Fr w H ob ra rc x.m.reads
  | 3, _, v => v = .pointer (some ⟨ob, 7, none⟩)
  | 4, _, v => v = .slice x.wa x.m.writes.length x.wc
  | 5, w, v => ∃ ra rc, v = .slice ra x.m.writes.length rc ∧ Fr w H ob ra rc x.m.writes
  | 6, _, v => v = .pointer (some ⟨ob, 6, none⟩)
  | 8, _, v => v = .pointer (some ⟨ob, 7, none⟩)
  | _, _, v => v = undef
theorem RP.mv {ob : Nat} {x : X} {H : Nat} : ∀ (i : Nat) (w w' : World) (v : Value), Mv (· = ob) w w' → RP ob x H i w v → RP ob x H i w' v := by
  intro i w w' v hn h
  unfold RP at h ⊢
  split <;> simp only at h <;> first
    | exact h
    | (obtain ⟨ra, rc, h1, h2⟩ := h; exact ⟨ra, rc, h1, h2.mv hn⟩)

def JP (H ob : Nat) (x : X) (to : ByteArray) (l : Array Bool) (w : World) : Prop :=
  ∃ rv wv, w.heap[ob]? = some (.cells (mvCells x.m to rv wv) 44 (0, 0)) ∧
    (l.getD 7 false = true → ∃ ra rc, rv = .slice ra x.m.reads.length rc ∧ Fr w H ob ra rc x.m.reads) ∧ (l.getD 7 false = false → rv = .slice x.ra x.m.reads.length x.rc) ∧
    (l.getD 9 false = true → ∃ wa wc, wv = .slice wa x.m.writes.length wc ∧ Fr w H ob wa wc x.m.writes) ∧ (l.getD 9 false = false → wv = .slice x.wa x.m.writes.length x.wc)
theorem JP.nu {H ob : Nat} {x : X} {to : ByteArray} {l : Array Bool} {w w' : World} (h : JP H ob x to l w) (hm : Nu w w') {i : Nat} (hp : 7 ≠ i) (hq : 9 ≠ i) : JP H ob x to (l.setIfInBounds i true) w' := by
  obtain ⟨rv, wv, h1, h2, h3, h4, h5⟩ := h
  have hm' : Mv (· = ob) w w' := hm.mono (fun _ h => h.elim)
  refine ⟨rv, wv, hm.heap h1 id, ?_, ?_, ?_, ?_⟩
  · intro e; rw [getD_set_ne hp] at e; obtain ⟨ra, rc, a, b⟩ := h2 e; exact ⟨ra, rc, a, b.mv hm'⟩
  · intro e; rw [getD_set_ne hp] at e; exact h3 e
  · intro e; rw [getD_set_ne hq] at e; obtain ⟨ra, rc, a, b⟩ := h4 e; exact ⟨ra, rc, a, b.mv hm'⟩
  · intro e; rw [getD_set_ne hq] at e; exact h5 e
theorem JP.storeP {H ob : Nat} {x : X} {to : ByteArray} {l : Array Bool} {w : World} (hz : 7 < l.size) (h : JP H ob x to l w) {ra : Option Addr} {rc : Nat} (hf : Fr w H ob ra rc x.m.reads) : JP H ob x to (l.setIfInBounds 7 true) (w.setCell ⟨ob, 6, none⟩ (.slice ra x.m.reads.length rc)) := by
  obtain ⟨rv, wv, h1, h2, h3, h4, h5⟩ := h
  have hm : Mv (· = ob) w (w.setCell ⟨ob, 6, none⟩ (.slice ra x.m.reads.length rc)) := Mv.setCell w ⟨ob, 6, none⟩ _
  refine ⟨_, wv, setCell_blk h1, fun _ => ⟨ra, rc, rfl, hf.mv hm⟩, ?_, ?_, ?_⟩
  · intro e; rw [Array.getD_eq_getD_getElem?, Array.getElem?_setIfInBounds_self] at e; simp [hz] at e
  · intro e; rw [getD_set_ne (by decide)] at e; obtain ⟨ra, rc, a, b⟩ := h4 e; exact ⟨ra, rc, a, b.mv hm⟩
  · intro e; rw [getD_set_ne (by decide)] at e; exact h5 e
theorem JP.storeQ {H ob : Nat} {x : X} {to : ByteArray} {l : Array Bool} {w : World} (hz : 9 < l.size) (h : JP H ob x to l w) {ra : Option Addr} {rc : Nat} (hf : Fr w H ob ra rc x.m.writes) : JP H ob x to (l.setIfInBounds 9 true) (w.setCell ⟨ob, 7, none⟩ (.slice ra x.m.writes.length rc)) := by
  obtain ⟨rv, wv, h1, h2, h3, h4, h5⟩ := h
  have hm : Mv (· = ob) w (w.setCell ⟨ob, 7, none⟩ (.slice ra x.m.writes.length rc)) := Mv.setCell w ⟨ob, 7, none⟩ _
  refine ⟨rv, _, setCell_blk h1, ?_, ?_, fun _ => ⟨ra, rc, rfl, hf.mv hm⟩, ?_⟩
  · intro e; rw [getD_set_ne (by decide)] at e; obtain ⟨ra, rc, a, b⟩ := h2 e; exact ⟨ra, rc, a, b.mv hm⟩
  · intro e; rw [getD_set_ne (by decide)] at e; exact h3 e
  · intro e; rw [Array.getD_eq_getD_getElem?, Array.getElem?_setIfInBounds_self] at e; simp [hz] at e

theorem pmove_out {w w9 w10 : World} {H : Nat} {n : ByteArray} {m : Mov} {to : ByteArray} {ra wa : Option Addr} {rc wc : Nat} (hn : Nu w w9) (hr : OwnI w9 H ra rc m.reads) (hw : OwnI w9 H wa wc m.writes) (hH : w.heap.size + 1 < H) (hm : Mv (· = w.heap.size + 1) w9 w10) (ht : to = (numMv n m).to) :
    PMOut w n m (.returned (.agg (mvCells m to (.slice ra m.reads.length rc) (.slice wa m.writes.length wc)))) w10 := by
  subst ht
  have he : numMv n m = { m with to := (numMv n m).to } := by unfold numMv; split <;> rfl
  refine ⟨hn.trans hm (fun x hx => .inr (by omega)), ⟨{ m with to := (numMv n m).to }, ra, rc, wa, wc⟩, rfl, he.symm, hr.mv hm (fun a hp ha e => ?_) (by omega), hw.mv hm (fun a hp ha e => ?_) (by omega)⟩
  · rcases hr.row with h0 | ⟨g, cs, hg, hh, _⟩
    · omega
    · rw [hg] at ha; cases ha; simp only at e; omega
  · rcases hw.row with h0 | ⟨g, cs, hg, hh, _⟩
    · omega
    · rw [hg] at ha; cases ha; simp only at e; omega

/-- A text that is small. -/
def SmallB (a : ByteArray) : Prop := a.size ≤ 1000000000

@[go_sem high] theorem run_add_smallB {P : Program} (w : World) (a b : ByteArray) (ha : SmallB a) (hb : SmallB b) : (Op.stringOp .add a b).run P w = .ok (.string (a ++ b)) w :=
  run_string_add_sum w a b (by unfold SmallB at ha hb; omega)

theorem done_not {ops : Array Oper} {l : Array Bool} (hcl : ∀ (i : Nat) (o : Oper), ops[i]? = some o → l.getD i false = true → ∀ e ∈ o.after, Region.binds .any e = true → l.getD e.on false = true) {i j : Nat} {o : Oper} (ho : ops[j]? = some o) (he : (o.after.any fun e => e.on == i && Region.binds .any e) = true) (hl : l.getD i false = false) : l.getD j false = false := by
  cases h : l.getD j false with
  | false => rfl
  | true =>
    obtain ⟨k, hk, hp⟩ := Array.any_eq_true.1 he
    simp only [Bool.and_eq_true, beq_iff_eq] at hp
    have := hcl j o ho h _ (Array.getElem_mem hk) hp.2
    rw [hp.1, hl] at this
    cases this

theorem two_boxes (w : World) (A B : Array Value) (t : TypeId) : ((w.alloc (.cells A t)).alloc (.cells B t)).heap[w.heap.size]? = some (.cells A t (0, 0)) ∧ ((w.alloc (.cells A t)).alloc (.cells B t)).heap[w.heap.size + 1]? = some (.cells B t (0, 0)) ∧ Nu w ((w.alloc (.cells A t)).alloc (.cells B t)) := by
  have h1 : (w.alloc (.cells A t)).heap.size = w.heap.size + 1 := World.size_alloc _ _
  refine ⟨(Mv.alloc (fun _ => False) (w.alloc (.cells A t)) _).heap (heap_alloc_new w _) id, ?_, mv0 (Mv.alloc _ _ _) (Mv.alloc _ _ _)⟩
  have := heap_alloc_new (w.alloc (.cells A t)) (.cells B t)
  rwa [h1] at this

set_option maxHeartbeats 8000000 in
set_option maxRecDepth 40000 in
theorem numMove_any (w : World) (x : X) (n : ByteArray) (hn : SmallB n) (ht : SmallB x.m.to) (hr : IntsAt w w.heap.size x.ra x.m.reads) (hw : IntsAt w w.heap.size x.wa x.m.writes) :
    Calls Try.prog 72 #[x.val, .string n] w (PMOut w n x.m) := by
  have HRI := hid hr
  have HWI := hid hw
  clear hr hw
  unfold X.val
  go_enter Try.func72, Try.ntmps72
  go_upto_region 1 with fail
  obtain ⟨w1, hw1⟩ : ∃ w1, (w.alloc (.cells #[.int .i64 x.m.proc, .int .i64 x.m.edge, .int .i64 x.m.wth, .int .i64 x.m.wedge, .string x.m.to, .int .i64 x.m.bad, .slice x.ra x.m.reads.length x.rc, .slice x.wa x.m.writes.length x.wc, .int .u64 x.m.turns] 44)).alloc (.cells #[.int .i64 0, .int .i64 0, .int .i64 0, .int .i64 0, .string ⟨#[]⟩, .int .i64 0, .slice none 0 0, .slice none 0 0, .int .u64 0] 44) = w1 := ⟨_, rfl⟩
  obtain ⟨hb, hc, hnn⟩ := two_boxes w #[.int .i64 x.m.proc, .int .i64 x.m.edge, .int .i64 x.m.wth, .int .i64 x.m.wedge, .string x.m.to, .int .i64 x.m.bad, .slice x.ra x.m.reads.length x.rc, .slice x.wa x.m.writes.length x.wc, .int .u64 x.m.turns] #[.int .i64 0, .int .i64 0, .int .i64 0, .int .i64 0, .string ⟨#[]⟩, .int .i64 0, .slice none 0 0, .slice none 0 0, .int .u64 0] 44
  rw [hw1] at hb hc hnn ⊢
  have HB1 : Hid (w1.heap[w.heap.size]? = some (.cells #[.int .i64 x.m.proc, .int .i64 x.m.edge, .int .i64 x.m.wth, .int .i64 x.m.wedge, .string x.m.to, .int .i64 x.m.bad, .slice x.ra x.m.reads.length x.rc, .slice x.wa x.m.writes.length x.wc, .int .u64 x.m.turns] 44 (0, 0))) := hb
  have HC1 : Hid (w1.heap[w.heap.size + 1]? = some (.cells #[.int .i64 0, .int .i64 0, .int .i64 0, .int .i64 0, .string ⟨#[]⟩, .int .i64 0, .slice none 0 0, .slice none 0 0, .int .u64 0] 44 (0, 0))) := hc
  have HN1 : Hid (Nu w w1) := hnn
  clear hw1 hb hc hnn
  have c5 := (cells9 HB1.out).2.2.2.2.2.1
  by_cases hbad : x.m.bad = 0
  · have HTO : Hid (n ++ x.m.to = (numMv n x.m).to) := by unfold numMv; rw [if_pos hbad]; rfl
    rw [hbad] at c5
    have c4 := (cells9 HB1.out).2.2.2.2.1
    have z4 := (frees9 HB1.out).2.2.2.2.1
    go_upto_region 3 with fail
    have HM3 : Hid (Mv (· = w.heap.size) w1 (w1.setCell ⟨w.heap.size, 4, none⟩ (.string (n ++ x.m.to)))) := Mv.setCell w1 ⟨w.heap.size, 4, none⟩ _
    have HB3 : Hid ((w1.setCell ⟨w.heap.size, 4, none⟩ (.string (n ++ x.m.to))).heap[w.heap.size]? = some (.cells (mvCells x.m (n ++ x.m.to) (.slice x.ra x.m.reads.length x.rc) (.slice x.wa x.m.writes.length x.wc)) 44 (0, 0))) := setCell_blk HB1.out
    have HC3 : Hid ((w1.setCell ⟨w.heap.size, 4, none⟩ (.string (n ++ x.m.to))).heap[w.heap.size + 1]? = some (.cells #[.int .i64 0, .int .i64 0, .int .i64 0, .int .i64 0, .string ⟨#[]⟩, .int .i64 0, .slice none 0 0, .slice none 0 0, .int .u64 0] 44 (0, 0))) := HM3.out.heap HC1.out (by omega)
    have HN3 : Hid (Nu w (w1.setCell ⟨w.heap.size, 4, none⟩ (.string (n ++ x.m.to)))) := HN1.out.trans HM3.out (fun x hx => .inr (by omega))
    generalize w1.setCell ⟨w.heap.size, 4, none⟩ (.string (n ++ x.m.to)) = w3 at *
    clear c4 z4 c5 HM3 HB1 HC1 hbad
    generalize n ++ x.m.to = to at *

    have HSZ : Hid (w.heap.size + 1 < w3.heap.size) := by have := lt_of_block HC3.out; show _ < _; omega
    have HRI2 : Hid (∀ W : World, Below w.heap.size w W → IntsAt W w.heap.size x.ra x.m.reads) := fun W hW => HRI.out.below hW (Nat.le_refl _)
    have HWI2 : Hid (∀ W : World, Below w.heap.size w W → IntsAt W w.heap.size x.wa x.m.writes) := fun W hW => HWI.out.below hW (Nat.le_refl _)
    have HW3 : Hid (Below w.heap.size w w3) := HN3.out.nu_below
    rename_i KC hKC
    refine wp_regJ (· = w.heap.size) (RP w.heap.size x w3.heap.size) (JP w3.heap.size w.heap.size x to) RP.mv ?hj (by kernel_rfl) (by kernel_rfl) ?h0 ?step2 ?store ?last2
    case hj =>
      intro l i p d w w' ho hd hm hJ
      exact hJ.nu hm (fun e => by subst e; cases ho; cases hd) (fun e => by subst e; cases ho; cases hd)
    case h0 => exact ⟨_, _, HB3.out, fun e => absurd e (by rw [getD_none]; simp), fun _ => rfl, fun e => absurd e (by rw [getD_none]; simp), fun _ => rfl⟩
    case step2 =>
      intro l i p d a w' ho hd hl haft hcl hmv hJ hfr had K hK
      have hi : i < 10 := (Array.getElem?_eq_some_iff.1 ho).1
      have f2 := hfr 2 (by kernel_rfl)
      obtain ⟨rv, wv, hcb, _, hj3, _, hj5⟩ := id hJ
      have hbl : Below w.heap.size w w' := HW3.out.trans (hmv.below HN3.out.size (fun b hb => by subst hb; exact Nat.le_refl _))
      have hcp : ∀ {W : World} {ao' : Option Addr} {cap' : Nat} {ys : List Int}, OwnI W w'.heap.size ao' cap' ys → Fr W w3.heap.size w.heap.size ao' cap' ys := fun {W ao' cap' ys} h => by
        refine ⟨h.mv (Mv.refl (fun _ => False) _) (fun _ _ _ => id) hmv.size, fun a hp ha => ?_⟩
        rcases h.row with h0 | ⟨g', cs, hg', hh, _⟩
        · omega
        · rw [hg'] at ha; cases ha
          have := hmv.size
          have := HSZ.out
          show g' ≠ w.heap.size
          omega
      have : i = 0 ∨ i = 1 ∨ i = 2 ∨ i = 3 ∨ i = 4 ∨ i = 5 ∨ i = 6 ∨ i = 7 ∨ i = 8 ∨ i = 9 := by omega
      rcases this with rfl | rfl | rfl | rfl | rfl | rfl | rfl | rfl | rfl | rfl
      · cases ho; cases hd
        exact ite_yes (want_none rfl) (lk_fieldM6 rfl rfl f2 (fun w' hm => hK w' _ hm rfl))
      · have h7 := done_not hcl (i := 1) (j := 7) rfl (by kernel_rfl) hl
        cases ho; cases hd
        rw [hj3 h7] at hcb
        obtain ⟨⟨_, h0, rfl⟩, _⟩ := had; exact ite_yes (want_none rfl) (lk_loadI rfl rfl h0 (cell_blk hcb 6) (fun w' hm => hK w' _ hm rfl))
      · cases ho; cases hd
        obtain ⟨⟨_, h0, rfl⟩, _⟩ := had; exact ite_yes (want_none rfl) (lk_clone rfl rfl h0 (HRI2.out _ hbl) (fun w' ao' cap' hm hown => hK w' _ hm ⟨ao', cap', rfl, hcp hown⟩))
      · cases ho; cases hd
        exact ite_yes (want_none rfl) (lk_fieldM7 rfl rfl f2 (fun w' hm => hK w' _ hm rfl))
      · have h9 := done_not hcl (i := 4) (j := 9) rfl (by kernel_rfl) hl
        cases ho; cases hd
        rw [hj5 h9] at hcb
        obtain ⟨⟨_, h0, rfl⟩, _⟩ := had; exact ite_yes (want_none rfl) (lk_loadI rfl rfl h0 (cell_blk hcb 7) (fun w' hm => hK w' _ hm rfl))
      · cases ho; cases hd
        obtain ⟨⟨_, h0, rfl⟩, _⟩ := had; exact ite_yes (want_none rfl) (lk_clone rfl rfl h0 (HWI2.out _ hbl) (fun w' ao' cap' hm hown => hK w' _ hm ⟨ao', cap', rfl, hcp hown⟩))
      · cases ho; cases hd
        exact ite_yes (want_none rfl) (lk_fieldM6 rfl rfl f2 (fun w' hm => hK w' _ hm rfl))
      · cases ho; cases hd
      · cases ho; cases hd
        exact ite_yes (want_none rfl) (lk_fieldM7 rfl rfl f2 (fun w' hm => hK w' _ hm rfl))
      · cases ho; cases hd
    case store =>
      intro l i p a w' ho hd hls haft hcl hmv hJ hfr had K hK
      have hi : i < 10 := (Array.getElem?_eq_some_iff.1 ho).1
      obtain ⟨rv, wv, hcb, _⟩ := id hJ
      have : i = 0 ∨ i = 1 ∨ i = 2 ∨ i = 3 ∨ i = 4 ∨ i = 5 ∨ i = 6 ∨ i = 7 ∨ i = 8 ∨ i = 9 := by omega
      rcases this with rfl | rfl | rfl | rfl | rfl | rfl | rfl | rfl | rfl | rfl <;> cases ho <;> first | (cases hd; done) | skip
      · obtain ⟨⟨_, h0, rfl⟩, ⟨_, h1, ra, rc, rfl, hf⟩, _⟩ := had
        exact lk_storeI rfl rfl h0 h1 hcb (by simp [mvCells]) (hK _ (Mv.setCell w' ⟨w.heap.size, 6, none⟩ _) (hJ.storeP (by rw [hls]; decide) hf))
      · obtain ⟨⟨_, h0, rfl⟩, ⟨_, h1, ra, rc, rfl, hf⟩, _⟩ := had
        exact lk_storeI rfl rfl h0 h1 hcb (by simp [mvCells]) (hK _ (Mv.setCell w' ⟨w.heap.size, 7, none⟩ _) (hJ.storeQ (by rw [hls]; decide) hf))
    case last2 =>
      intro l a w9 hls hall hmv hJ hdf hsz hfr htv
      obtain ⟨rv, wv, hcb, hj1, _, hj2, _⟩ := hJ
      obtain ⟨ra, rc, rfl, hra⟩ := hj1 (hall 7 (by decide))
      obtain ⟨wa, wc, rfl, hwa⟩ := hj2 (hall 9 (by decide))
      obtain ⟨v2, t2, r2, rc2, rfl, _⟩ := htv 2 _ 15 rfl rfl
      obtain ⟨v5, t5, r5, rc5, rfl, _⟩ := htv 5 _ 18 rfl rfl
      have htm := fill_eqN (vals := fun i => ([.pointer (some ⟨w.heap.size, 6, none⟩), .slice x.ra x.m.reads.length x.rc, .slice r2 x.m.reads.length rc2, .pointer (some ⟨w.heap.size, 7, none⟩), .slice x.wa x.m.writes.length x.wc, .slice r5 x.m.writes.length rc5, .pointer (some ⟨w.heap.size, 6, none⟩), undef, .pointer (some ⟨w.heap.size, 7, none⟩), undef] : List Value).getD i undef) (by kernel_rfl) hfr (fun i p d hi hd => by
        have hi' : i < 10 := (Array.getElem?_eq_some_iff.1 hi).1
        obtain ⟨v, h, hv⟩ := htv i p d hi hd
        have : i = 0 ∨ i = 1 ∨ i = 2 ∨ i = 3 ∨ i = 4 ∨ i = 5 ∨ i = 6 ∨ i = 7 ∨ i = 8 ∨ i = 9 := by omega
        rcases this with rfl | rfl | rfl | rfl | rfl | rfl | rfl | rfl | rfl | rfl <;> cases hi <;> cases hd <;> first | exact t2 | exact t5 | exact h.trans (congrArg some hv))
      refine hKC _ _ ?_
      have HB9 := hid hcb
      have HF9 := hid (And.intro hra hwa)
      have HM9 := hid hmv
      rw [act_eq' htm hdf]
      clear htm hdf hsz hfr htv t2 t5 hall hj1 hj2 hls hcb hra hwa hKC hmv
      simp only [fill, List.getD_cons_succ, List.getD_cons_zero, List.setIfInBounds_toArray, List.set_cons_succ, List.set_cons_zero]
      have HC9 : Hid (w9.heap[w.heap.size + 1]? = some (.cells #[.int .i64 0, .int .i64 0, .int .i64 0, .int .i64 0, .string ⟨#[]⟩, .int .i64 0, .slice none 0 0, .slice none 0 0, .int .u64 0] 44 (0, 0))) := HM9.out.heap HC3.out (by omega)
      have HNW : Hid (Nu w w9) := HN3.out.trans HM9.out (fun x hx => .inr (by omega))
      obtain ⟨p0, p1, p2, p3, p4, p5, p6, p7, p8⟩ := cells9 HB9.out
      obtain ⟨q0, q1, q2, q3, q4, q5, q6, q7, q8⟩ := cells9 HC9.out
      obtain ⟨z0, z1, z2, z3, z4, z5, z6, z7, z8⟩ := frees9 HC9.out
      go_wp2
      obtain ⟨hset, hmset⟩ := set9 (v0 := .int .i64 x.m.proc) (v1 := .int .i64 x.m.edge) (v2 := .int .i64 x.m.wth) (v3 := .int .i64 x.m.wedge) (v4 := .string to) (v5 := .int .i64 x.m.bad) (v6 := .slice ra x.m.reads.length rc) (v7 := .slice wa x.m.writes.length wc) (v8 := .int .u64 x.m.turns) HC9.out
      refine bodyPost_ret (results_cell_row rfl _ _ (w.heap.size + 1) 44 _ (0, 0) _ rfl hset Try.underlying44 rfl (by kernel_rfl)) rfl ?_
      exact pmove_out HNW.out HF9.out.1.1 HF9.out.2.1 HSZ.out hmset HTO.out
  · have HTO : Hid (x.m.to = (numMv n x.m).to) := by unfold numMv; rw [if_neg hbad]; rfl
    go_upto_region 3 with fail
    have HB3 : Hid (w1.heap[w.heap.size]? = some (.cells (mvCells x.m x.m.to (.slice x.ra x.m.reads.length x.rc) (.slice x.wa x.m.writes.length x.wc)) 44 (0, 0))) := HB1.out
    have HC3 := hid HC1.out
    have HN3 := hid HN1.out
    clear c5 HB1 HC1 HN1 hbad
    generalize w1 = w3 at *

    have HSZ : Hid (w.heap.size + 1 < w3.heap.size) := by have := lt_of_block HC3.out; show _ < _; omega
    have HRI2 : Hid (∀ W : World, Below w.heap.size w W → IntsAt W w.heap.size x.ra x.m.reads) := fun W hW => HRI.out.below hW (Nat.le_refl _)
    have HWI2 : Hid (∀ W : World, Below w.heap.size w W → IntsAt W w.heap.size x.wa x.m.writes) := fun W hW => HWI.out.below hW (Nat.le_refl _)
    have HW3 : Hid (Below w.heap.size w w3) := HN3.out.nu_below
    rename_i KC hKC
    refine wp_regJ (· = w.heap.size) (RP w.heap.size x w3.heap.size) (JP w3.heap.size w.heap.size x x.m.to) RP.mv ?hj (by kernel_rfl) (by kernel_rfl) ?h0 ?step2 ?store ?last2
    case hj =>
      intro l i p d w w' ho hd hm hJ
      exact hJ.nu hm (fun e => by subst e; cases ho; cases hd) (fun e => by subst e; cases ho; cases hd)
    case h0 => exact ⟨_, _, HB3.out, fun e => absurd e (by rw [getD_none]; simp), fun _ => rfl, fun e => absurd e (by rw [getD_none]; simp), fun _ => rfl⟩
    case step2 =>
      intro l i p d a w' ho hd hl haft hcl hmv hJ hfr had K hK
      have hi : i < 10 := (Array.getElem?_eq_some_iff.1 ho).1
      have f2 := hfr 2 (by kernel_rfl)
      obtain ⟨rv, wv, hcb, _, hj3, _, hj5⟩ := id hJ
      have hbl : Below w.heap.size w w' := HW3.out.trans (hmv.below HN3.out.size (fun b hb => by subst hb; exact Nat.le_refl _))
      have hcp : ∀ {W : World} {ao' : Option Addr} {cap' : Nat} {ys : List Int}, OwnI W w'.heap.size ao' cap' ys → Fr W w3.heap.size w.heap.size ao' cap' ys := fun {W ao' cap' ys} h => by
        refine ⟨h.mv (Mv.refl (fun _ => False) _) (fun _ _ _ => id) hmv.size, fun a hp ha => ?_⟩
        rcases h.row with h0 | ⟨g', cs, hg', hh, _⟩
        · omega
        · rw [hg'] at ha; cases ha
          have := hmv.size
          have := HSZ.out
          show g' ≠ w.heap.size
          omega
      have : i = 0 ∨ i = 1 ∨ i = 2 ∨ i = 3 ∨ i = 4 ∨ i = 5 ∨ i = 6 ∨ i = 7 ∨ i = 8 ∨ i = 9 := by omega
      rcases this with rfl | rfl | rfl | rfl | rfl | rfl | rfl | rfl | rfl | rfl
      · cases ho; cases hd
        exact ite_yes (want_none rfl) (lk_fieldM6 rfl rfl f2 (fun w' hm => hK w' _ hm rfl))
      · have h7 := done_not hcl (i := 1) (j := 7) rfl (by kernel_rfl) hl
        cases ho; cases hd
        rw [hj3 h7] at hcb
        obtain ⟨⟨_, h0, rfl⟩, _⟩ := had; exact ite_yes (want_none rfl) (lk_loadI rfl rfl h0 (cell_blk hcb 6) (fun w' hm => hK w' _ hm rfl))
      · cases ho; cases hd
        obtain ⟨⟨_, h0, rfl⟩, _⟩ := had; exact ite_yes (want_none rfl) (lk_clone rfl rfl h0 (HRI2.out _ hbl) (fun w' ao' cap' hm hown => hK w' _ hm ⟨ao', cap', rfl, hcp hown⟩))
      · cases ho; cases hd
        exact ite_yes (want_none rfl) (lk_fieldM7 rfl rfl f2 (fun w' hm => hK w' _ hm rfl))
      · have h9 := done_not hcl (i := 4) (j := 9) rfl (by kernel_rfl) hl
        cases ho; cases hd
        rw [hj5 h9] at hcb
        obtain ⟨⟨_, h0, rfl⟩, _⟩ := had; exact ite_yes (want_none rfl) (lk_loadI rfl rfl h0 (cell_blk hcb 7) (fun w' hm => hK w' _ hm rfl))
      · cases ho; cases hd
        obtain ⟨⟨_, h0, rfl⟩, _⟩ := had; exact ite_yes (want_none rfl) (lk_clone rfl rfl h0 (HWI2.out _ hbl) (fun w' ao' cap' hm hown => hK w' _ hm ⟨ao', cap', rfl, hcp hown⟩))
      · cases ho; cases hd
        exact ite_yes (want_none rfl) (lk_fieldM6 rfl rfl f2 (fun w' hm => hK w' _ hm rfl))
      · cases ho; cases hd
      · cases ho; cases hd
        exact ite_yes (want_none rfl) (lk_fieldM7 rfl rfl f2 (fun w' hm => hK w' _ hm rfl))
      · cases ho; cases hd
    case store =>
      intro l i p a w' ho hd hls haft hcl hmv hJ hfr had K hK
      have hi : i < 10 := (Array.getElem?_eq_some_iff.1 ho).1
      obtain ⟨rv, wv, hcb, _⟩ := id hJ
      have : i = 0 ∨ i = 1 ∨ i = 2 ∨ i = 3 ∨ i = 4 ∨ i = 5 ∨ i = 6 ∨ i = 7 ∨ i = 8 ∨ i = 9 := by omega
      rcases this with rfl | rfl | rfl | rfl | rfl | rfl | rfl | rfl | rfl | rfl <;> cases ho <;> first | (cases hd; done) | skip
      · obtain ⟨⟨_, h0, rfl⟩, ⟨_, h1, ra, rc, rfl, hf⟩, _⟩ := had
        exact lk_storeI rfl rfl h0 h1 hcb (by simp [mvCells]) (hK _ (Mv.setCell w' ⟨w.heap.size, 6, none⟩ _) (hJ.storeP (by rw [hls]; decide) hf))
      · obtain ⟨⟨_, h0, rfl⟩, ⟨_, h1, ra, rc, rfl, hf⟩, _⟩ := had
        exact lk_storeI rfl rfl h0 h1 hcb (by simp [mvCells]) (hK _ (Mv.setCell w' ⟨w.heap.size, 7, none⟩ _) (hJ.storeQ (by rw [hls]; decide) hf))
    case last2 =>
      intro l a w9 hls hall hmv hJ hdf hsz hfr htv
      obtain ⟨rv, wv, hcb, hj1, _, hj2, _⟩ := hJ
      obtain ⟨ra, rc, rfl, hra⟩ := hj1 (hall 7 (by decide))
      obtain ⟨wa, wc, rfl, hwa⟩ := hj2 (hall 9 (by decide))
      obtain ⟨v2, t2, r2, rc2, rfl, _⟩ := htv 2 _ 15 rfl rfl
      obtain ⟨v5, t5, r5, rc5, rfl, _⟩ := htv 5 _ 18 rfl rfl
      have htm := fill_eqN (vals := fun i => ([.pointer (some ⟨w.heap.size, 6, none⟩), .slice x.ra x.m.reads.length x.rc, .slice r2 x.m.reads.length rc2, .pointer (some ⟨w.heap.size, 7, none⟩), .slice x.wa x.m.writes.length x.wc, .slice r5 x.m.writes.length rc5, .pointer (some ⟨w.heap.size, 6, none⟩), undef, .pointer (some ⟨w.heap.size, 7, none⟩), undef] : List Value).getD i undef) (by kernel_rfl) hfr (fun i p d hi hd => by
        have hi' : i < 10 := (Array.getElem?_eq_some_iff.1 hi).1
        obtain ⟨v, h, hv⟩ := htv i p d hi hd
        have : i = 0 ∨ i = 1 ∨ i = 2 ∨ i = 3 ∨ i = 4 ∨ i = 5 ∨ i = 6 ∨ i = 7 ∨ i = 8 ∨ i = 9 := by omega
        rcases this with rfl | rfl | rfl | rfl | rfl | rfl | rfl | rfl | rfl | rfl <;> cases hi <;> cases hd <;> first | exact t2 | exact t5 | exact h.trans (congrArg some hv))
      refine hKC _ _ ?_
      have HB9 := hid hcb
      have HF9 := hid (And.intro hra hwa)
      have HM9 := hid hmv
      rw [act_eq' htm hdf]
      clear htm hdf hsz hfr htv t2 t5 hall hj1 hj2 hls hcb hra hwa hKC hmv
      simp only [fill, List.getD_cons_succ, List.getD_cons_zero, List.setIfInBounds_toArray, List.set_cons_succ, List.set_cons_zero]
      have HC9 : Hid (w9.heap[w.heap.size + 1]? = some (.cells #[.int .i64 0, .int .i64 0, .int .i64 0, .int .i64 0, .string ⟨#[]⟩, .int .i64 0, .slice none 0 0, .slice none 0 0, .int .u64 0] 44 (0, 0))) := HM9.out.heap HC3.out (by omega)
      have HNW : Hid (Nu w w9) := HN3.out.trans HM9.out (fun x hx => .inr (by omega))
      obtain ⟨p0, p1, p2, p3, p4, p5, p6, p7, p8⟩ := cells9 HB9.out
      obtain ⟨q0, q1, q2, q3, q4, q5, q6, q7, q8⟩ := cells9 HC9.out
      obtain ⟨z0, z1, z2, z3, z4, z5, z6, z7, z8⟩ := frees9 HC9.out
      go_wp2
      obtain ⟨hset, hmset⟩ := set9 (v0 := .int .i64 x.m.proc) (v1 := .int .i64 x.m.edge) (v2 := .int .i64 x.m.wth) (v3 := .int .i64 x.m.wedge) (v4 := .string x.m.to) (v5 := .int .i64 x.m.bad) (v6 := .slice ra x.m.reads.length rc) (v7 := .slice wa x.m.writes.length wc) (v8 := .int .u64 x.m.turns) HC9.out
      refine bodyPost_ret (results_cell_row rfl _ _ (w.heap.size + 1) 44 _ (0, 0) _ rfl hset Try.underlying44 rfl (by kernel_rfl)) rfl ?_
      exact pmove_out HNW.out HF9.out.1.1 HF9.out.2.1 HSZ.out hmset HTO.out

end Go.Proofs.Ytcpgpiokjghcnaa
/-
  A graph as a system: the program's Begin and Look.
-/
set_option linter.unusedVariables false
set_option linter.unusedSimpArgs false
namespace Go.Proofs.Ytcpgpiokjghcnaa
open Go.RowKit

theorem ints_one {w : World} {b : Nat} {n : Nat} {t : TypeId} (h : w.heap[b]? = some (.cells #[.int .i64 (n : Int)] t (0, 0))) : IntsAt w w.heap.size (some ⟨b, 0, none⟩) (ints [n]) := by
  refine ⟨(show (1 : Int) ≤ 17592186044416 by decide), .inr ⟨b, 0, rfl, lt_of_block h, fun i hi => ?_⟩⟩
  obtain rfl : i = 0 := by simp [ints] at hi; omega
  exact cell_blk h 0

theorem encs_one (n : Nat) : encs [n] = encU n := by simp [encs]
theorem cells4 {w : World} {b : Nat} {t : TypeId} {v0 v1 v2 v3 : Value} (h : w.heap[b]? = some (.cells #[v0, v1, v2, v3] t (0, 0))) : w.cell? ⟨b, 0, none⟩ = some v0 ∧ w.cell? ⟨b, 1, none⟩ = some v1 ∧ w.cell? ⟨b, 2, none⟩ = some v2 ∧ w.cell? ⟨b, 3, none⟩ = some v3 :=
  ⟨cell_blk h 0, cell_blk h 1, cell_blk h 2, cell_blk h 3⟩
theorem set4 {w : World} {b : Nat} {t : TypeId} {z0 z1 z2 z3 v0 v1 v2 v3 : Value} (h : w.heap[b]? = some (.cells #[z0, z1, z2, z3] t (0, 0))) :
    ((((w.setCell ⟨b, 0, none⟩ v0).setCell ⟨b, 1, none⟩ v1).setCell ⟨b, 2, none⟩ v2).setCell ⟨b, 3, none⟩ v3).heap[b]? = some (.cells #[v0, v1, v2, v3] t (0, 0)) ∧ Mv (· = b) w ((((w.setCell ⟨b, 0, none⟩ v0).setCell ⟨b, 1, none⟩ v1).setCell ⟨b, 2, none⟩ v2).setCell ⟨b, 3, none⟩ v3) := by
  have h0 := setCell_blk (i := 0) (u := v0) h
  have h1 := setCell_blk (i := 1) (u := v1) h0
  have h2 := setCell_blk (i := 2) (u := v2) h1
  have h3 := setCell_blk (i := 3) (u := v3) h2
  simp only [List.setIfInBounds_toArray, List.set_cons_succ, List.set_cons_zero] at h3
  refine ⟨h3, ?_⟩
  have m (W : World) (i : Nat) (u : Value) : Mv (· = b) W (W.setCell ⟨b, i, none⟩ u) := Mv.setCell W ⟨b, i, none⟩ u
  have t2 {A B C : World} (h : Mv (· = b) A B) (k : Mv (· = b) B C) : Mv (· = b) A C := h.trans k (fun _ h => .inl h)
  exact t2 (t2 (t2 (m _ _ _) (m _ _ _)) (m _ _ _)) (m _ _ _)
theorem look_some {ns : List Node} {nxs : List NX} {st : ByteArray} {k : Nat} (he : nxs.map NX.nd = ns) (hn : nodeNo ns.length st = some k) (hk : k < nxs.length) : (graphSem ns).look st = ⟨nxs[k].nd.props, nxs[k].nd.en, nxs[k].nd.pr, nxs[k].nd.ac⟩ := by
  have : ns[k]? = some nxs[k].nd := by rw [← he, List.getElem?_map, List.getElem?_eq_getElem hk]; rfl
  simp [graphSem, hn, this]

theorem Begin_any (w : World) (r : Value) (ns : List Node) : Calls Try.prog 56 #[r] w fun e w' => e = .returned (.string (graphSem ns).begin) ∧ Nu w w' := by
  go_enter Try.func56, Try.ntmps56
  have HN : Hid (Nu w (w.alloc (.cells #[.int .i64 ((0 : Nat) : Int)] 3))) := Mv.alloc _ _ _
  have HI : Hid (IntsAt (w.alloc (.cells #[.int .i64 ((0 : Nat) : Int)] 3)) (w.alloc (.cells #[.int .i64 ((0 : Nat) : Int)] 3)).heap.size (some ⟨w.heap.size, 0, none⟩) (ints [0])) := ints_one (heap_alloc_new w _)
  go_wp2_with (go_at_call 59; refine (bytesOf_walk _ _ _ 1 [0] HI.out (by intro m hm; rw [List.mem_singleton.1 hm]; decide) (show 1 ≤ 1000 by decide)).mono ?_; rintro e w11 ⟨rfl, hn11⟩)
  go_ret
  refine ⟨?_, mv0 HN.out hn11⟩
  show Ending.returned (.string (txt (encs [0]))) = _
  rw [encs_one]
  rfl

set_option maxHeartbeats 4000000 in
set_option maxRecDepth 40000 in
theorem Look_any (w : World) (F : Nat → Prop) (gb g nc rb : Nat) (ns : List Node) (nxs : List NX) (h : GraphIs w F gb ns g nc rb nxs) (st : ByteArray) (hst : Short st) : Calls Try.prog 57 #[.pointer (some ⟨gb, 0, none⟩), .string st] w fun e w' => e = .returned (sval ((graphSem ns).look st)) ∧ Nu w w' := by
  have HG := hid h
  have HST := hid hst
  have g0 := cell_blk h.blk 0
  have g1 := cell_blk h.blk 1
  simp only [List.size_toArray, List.length_cons, List.length_nil, Nat.reduceAdd, Nat.lt_add_one, Nat.reduceLT, getElem?_pos, List.getElem_toArray, List.getElem_cons_zero, List.getElem_cons_succ, Nat.zero_lt_succ] at g0 g1
  have hl := h.len
  have hl1 : (ns.length : Int) ≤ 20000 := by omega
  clear h hst
  go_enter Try.func57, Try.ntmps57
  go_upto_region 1 with fail
  have HN1 : Hid (Nu w (w.alloc (.cells #[.int .u64 0, .bool false, .bool false, .bool false] 41))) := Mv.alloc _ _ _
  have HA1 : Hid ((w.alloc (.cells #[.int .u64 0, .bool false, .bool false, .bool false] 41)).heap[w.heap.size]? = some (.cells #[.int .u64 0, .bool false, .bool false, .bool false] 41 (0, 0))) := heap_alloc_new w _
  generalize w.alloc (.cells #[.int .u64 0, .bool false, .bool false, .bool false] 41) = w1 at *
  replace g0 := cell_mv HN1.out g0 id
  replace g1 := cell_mv HN1.out g1 id
  have HI := hid (ints_one (HN1.out.heap HG.out.rblk id))
  go_upto_region 2 with (go_at_call 60; refine (numbers_any _ _ _ 1 [ns.length] HI.out (by intro m hm; rw [List.mem_singleton.1 hm]; exact HG.out.len.2) (show 1 ≤ 1000 by decide) st HST.out).mono ?_; rintro e w2 ⟨hn2, hcase⟩; have HN2 := hid hn2; rw [nums_one _ HG.out.len.2] at hcase; rcases hcase with ⟨hno, rfl⟩ | ⟨l, ao', cap', hno, rfl, hown⟩)
  · have HL : Hid ((graphSem ns).look st = ⟨0, false, false, false⟩) := by
      have : nodeNo ns.length st = none := by simpa using hno
      show _ = _
      simp [graphSem, this]
    have HA2 := hid (HN2.out.heap HA1.out id)
    obtain ⟨q0, q1, q2, q3⟩ := cells4 HA2.out
    have z0 := free_blk HA2.out 0
    have z1 := free_blk HA2.out 1
    have z2 := free_blk HA2.out 2
    have z3 := free_blk HA2.out 3
    clear hno g0 g1 hn2
    go_wp2
    obtain ⟨hset, hmset⟩ := set4 (v0 := .int .u64 0) (v1 := .bool false) (v2 := .bool false) (v3 := .bool false) HA2.out
    refine bodyPost_ret (results_cell_row rfl _ _ w.heap.size 41 _ (0, 0) _ rfl hset Try.underlying41 rfl (by kernel_rfl)) rfl ⟨by rw [HL.out]; rfl, ?_⟩
    exact (mv0 HN1.out HN2.out).trans hmset (fun x hx => .inr (by omega))
  · obtain ⟨k, hk, rfl⟩ := Option.map_eq_some_iff.1 hno
    have hnl : nxs.length = ns.length := by rw [← HG.out.eq, List.length_map]
    have hkl : k < nxs.length := by rw [hnl]; exact (nodeNo_some hk).1
    have HL := hid (look_some HG.out.eq hk hkl)
    have hat := HG.out.nat k hkl
    have n1 := hat.c1
    have n2 := hat.c2
    have n3 := hat.c3
    have n4 := hat.c4
    clear hat
    have hko : OwnI w2 w1.heap.size ao' cap' (ints [k]) := hown
    have hk0 : w2.cell? ((⟨0, 0, none⟩ : Addr)) = w2.cell? ((⟨0, 0, none⟩ : Addr)) := rfl
    obtain ⟨b3, off3, rfl, c3⟩ : ∃ b3 off3, ao' = some ⟨b3, off3, none⟩ ∧ w2.cell? ⟨b3, off3, none⟩ = some (.int .i64 (k : Int)) := by
      rcases hko.at.row with h0 | ⟨b3, off3, h1, _, hit⟩
      · simp [ints] at h0
      · exact ⟨b3, off3, h1, hit 0 (by simp [ints])⟩
    have hkn : (k : Int) < (ns.length : Int) := by have := (nodeNo_some hk).1; omega
    have HA2 := hid (HN2.out.heap HA1.out id)
    generalize nxs[k].nd = x at *
    clear hno hown hko hk0 hk hkl hnl hn2
    replace g0 := cell_mv HN2.out g0 id
    replace g1 := cell_mv HN2.out g1 id
    replace n1 := cell_mv (mv0 HN1.out HN2.out) n1 id
    replace n2 := cell_mv (mv0 HN1.out HN2.out) n2 id
    replace n3 := cell_mv (mv0 HN1.out HN2.out) n3 id
    replace n4 := cell_mv (mv0 HN1.out HN2.out) n4 id
    simp only [List.length_singleton]
    go_upto_region 4 with fail
    go_quiet (fail)
    go_upto_region 5 with fail
    obtain ⟨q0, q1, q2, q3⟩ := cells4 HA2.out
    have z0 := free_blk HA2.out 0
    have z1 := free_blk HA2.out 1
    have z2 := free_blk HA2.out 2
    have z3 := free_blk HA2.out 3
    go_region
    go_wp2
    obtain ⟨hset, hmset⟩ := set4 (w := (w2.drewN nq).drew) (v0 := .int .u64 x.props) (v1 := .bool x.en) (v2 := .bool x.pr) (v3 := .bool x.ac) HA2.out
    refine bodyPost_ret (results_cell_row rfl _ _ w.heap.size 41 _ (0, 0) _ rfl hset Try.underlying41 rfl (by kernel_rfl)) rfl ⟨by rw [HL.out]; rfl, ?_⟩
    exact (mv0 (mv0 HN1.out HN2.out) (mv0 (nu_drewN' w2 nq) (Mv.drew _ _))).trans hmset (fun x hx => .inr (by omega))

end Go.Proofs.Ytcpgpiokjghcnaa
