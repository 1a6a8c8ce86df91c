/-
  JOf1, JOf2, JOf3, JEver.
-/
import Derived.Test.YtiinmaedmkgfoaaDoorM19
import Derived.Test.YtiinmaedmkgfoaaDoorM25
import Derived.Test.YtiinmaedmkgfoaaDoorM48
import Derived.Test.YtiinmaedmkgfoaaDoorM49
/-
  A process's nodes while they are copied, arc rows and all.
-/
set_option linter.unusedVariables false
set_option linter.unusedSimpArgs false
namespace Go.Proofs.YtiinmaedmkgfoaaDoor
open Go.RowKit

instance : Inhabited TX := ⟨⟨default, none, 0⟩⟩

/-- Arcs that can be read. -/
def AR (W : World) (B : Nat) (x : TX) : Prop := x.n.arcs.length = 0 ∨ ∃ b off, x.vo = some ⟨b, off, none⟩ ∧ b < B ∧ ∀ k (h : k < x.n.arcs.length), TAAt W b (off + k * 8) x.n.arcs[k]
theorem AR.below {W W' : World} {B B' : Nat} {x : TX} (h : AR W B x) (hb : Below B W W') (hB : B ≤ B') : AR W' B' x :=
  h.imp id fun ⟨b, off, h1, h2, h3⟩ => ⟨b, off, h1, Nat.lt_of_lt_of_le h2 hB, fun k hk => (h3 k hk).below hb h2⟩

theorem RowV.txs {W : World} {B : Nat} {ao : Option Addr} {cap : Nat} {l : List TN} (h : RowV B 4 (TNAt W B) (.slice ao l.length cap) l) : ∃ txs : List TX, txs.map TX.n = l ∧ txs.length = l.length ∧ (l.length = 0 ∨ ∃ b off, ao = some ⟨b, off, none⟩ ∧ b < B ∧ ∀ i (hi : i < txs.length), TXAt W b (off + i * 4) txs[i]) ∧ ∀ x ∈ txs, AR W B x := by
  obtain ⟨ao', cap', hv, _, hr⟩ := h
  simp only [Value.slice.injEq] at hv
  obtain ⟨rfl, _, rfl⟩ := hv
  rcases hr with h0 | ⟨b, off, rfl, hb, hit⟩
  · have : l = [] := List.length_eq_zero_iff.1 h0
    subst this
    exact ⟨[], rfl, rfl, .inl rfl, fun x hx => absurd hx (by simp)⟩
  · have hx : ∀ i, i < l.length → ∃ x : TX, ∀ hi : i < l.length, x.n = l[i] ∧ TXAt W b (off + i * 4) x ∧ AR W B x := fun i hi => by
      obtain ⟨⟨v, c0, vo, vc, rfl, hl, har⟩, c1, c2, c3⟩ := hit i hi
      exact ⟨⟨l[i], vo, vc⟩, fun _ => ⟨rfl, ⟨c0, c1, c2, c3⟩, har⟩⟩
    obtain ⟨I, hI⟩ := Go.Deep.choose_lt hx
    refine ⟨(List.range l.length).map I, ?_, by simp, .inr ⟨b, off, rfl, hb, fun i hi => ?_⟩, fun x hx => ?_⟩
    · apply List.ext_getElem (by simp)
      intro i h1 h2
      simp only [List.map_map, List.getElem_map, List.getElem_range, Function.comp]
      exact (hI i h2 h2).1
    · have hi' : i < l.length := by simpa using hi
      simp only [List.getElem_map, List.getElem_range]
      exact (hI i hi' hi').2.1
    · obtain ⟨i, hi, rfl⟩ := List.mem_map.1 hx
      have hi' : i < l.length := by simpa using hi
      exact (hI i hi' hi').2.2

/-- Nodes of one's own, the first k of them with arcs of their own. -/
structure GT (V wr : World) (g nc : Nat) (l : List TN) (txs : List TX) (k : Nat) : Prop where
  eq : txs.map TX.n = l
  row : wr.ownsRow V.heap.size 74 4 (.slice (some ⟨g, 0, none⟩) l.length nc) l.length (txflat txs)
  old : ∀ j (h : j < txs.length), k ≤ j → AR wr V.heap.size txs[j]
  new : ∀ j (h : j < txs.length), j < k → txs[j].n.arcs.length = 0 ∨ ∃ g', txs[j].vo = some ⟨g', 0, none⟩ ∧ V.heap.size ≤ g' ∧ g' < wr.heap.size ∧ g' ≠ g ∧ ∀ q (h : q < txs[j].n.arcs.length), TAAt wr g' (q * 8) txs[j].n.arcs[q]
  nu : Nu V wr

theorem TAAt.mv {S : Nat → Prop} {W W' : World} {b o : Nat} {x : TA} (h : TAAt W b o x) (hm : Mv S W W') (hS : ¬ S b) : TAAt W' b o x := ⟨cell_mv hm h.c0 hS, cell_mv hm h.c1 hS, cell_mv hm h.c2 hS, cell_mv hm h.c3 hS, cell_mv hm h.c4 hS, cell_mv hm h.c5 hS, cell_mv hm h.c6 hS, cell_mv hm h.c7 hS⟩
theorem TXAt.mv {S : Nat → Prop} {W W' : World} {b o : Nat} {x : TX} (h : TXAt W b o x) (hm : Mv S W W') (hS : ¬ S b) : TXAt W' b o x := ⟨cell_mv hm h.c0 hS, cell_mv hm h.c1 hS, cell_mv hm h.c2 hS, cell_mv hm h.c3 hS⟩

theorem GT.len {V wr : World} {g nc : Nat} {l : List TN} {txs : List TX} {k : Nat} (h : GT V wr g nc l txs k) : txs.length = l.length := by rw [← h.eq, List.length_map]

theorem GT.step {V wr w2 : World} {g nc : Nat} {l : List TN} {txs : List TX} {k : Nat} (h : GT V wr g nc l txs k) (hk : k < txs.length) (hn : Nu wr w2) {ao' : Option Addr} {cap' : Nat} (hr : w2.ownsRow wr.heap.size 76 8 (.slice ao' (txs[k]).n.arcs.length cap') (txs[k]).n.arcs.length (taflat (txs[k]).n.arcs)) :
    GT V (w2.setCell ⟨g, k * 4, none⟩ (.slice ao' (txs[k]).n.arcs.length cap')) g nc l (txs.set k ⟨(txs[k]).n, ao', cap'⟩) (k + 1) := by
  have hgb := row_blk h.row (k := g) rfl
  have hms := Mv.setCell w2 ⟨g, k * 4, none⟩ (.slice ao' (txs[k]).n.arcs.length cap')
  have hm : Mv (fun b => b = g) wr (w2.setCell ⟨g, k * 4, none⟩ (.slice ao' (txs[k]).n.arcs.length cap')) := (hn.mono (fun _ h => h.elim)).trans hms (fun b hb => .inl hb)
  have hset : txs.set k ⟨(txs[k]).n, ao', cap'⟩ = txs.set k ⟨(txs[k]).n, ao', cap'⟩ := rfl
  refine ⟨?_, ?_, fun j hj hkj => ?_, fun j hj hjk => ?_, h.nu.trans hm (fun b hb => .inr (by rw [hb]; exact hgb.1))⟩
  · rw [List.map_set]
    show (txs.map TX.n).set k (txs[k]).n = l
    rw [← List.getElem_map TX.n (h := by simpa using hk), List.set_getElem_self, h.eq]
  · have h2 := row_mv hn h.row (fun _ _ => id)
    have h3 := row_set h2 (g := g) rfl (j := k * 4) (by rw [txflat_length]; omega) (.slice ao' (txs[k]).n.arcs.length cap')
    have h4 := txflat_set (l := txs) (i := k) (k := 0) (u := .slice ao' (txs[k]).n.arcs.length cap') (x' := ⟨(txs[k]).n, ao', cap'⟩) hk (by decide) (by simp [txcells])
    rw [Nat.add_zero] at h4
    rwa [h4] at h3
  · have hj' : j < txs.length := by rwa [List.length_set] at hj
    rw [List.getElem_set_ne (by omega)]
    exact (h.old j hj' (by omega)).below (hm.below h.nu.size (fun b hb => by rw [hb]; exact hgb.1)) (Nat.le_refl _)
  · have hj' : j < txs.length := by rwa [List.length_set] at hj
    by_cases hjk' : j = k
    · subst hjk'
      rw [List.getElem_set_self]
      rcases hr.2 with ⟨hv, hn0⟩ | ⟨g', _, cur, hv, hg, hblk, _⟩
      · exact .inl hn0
      · have hv' := hv
        simp only [Value.slice.injEq] at hv'
        obtain ⟨rfl, _, _⟩ := hv'
        have hlt : g < g' := by omega
        refine .inr ⟨g', rfl, Nat.le_trans h.nu.size hg, Nat.lt_of_lt_of_le (lt_of_block hblk) hms.size, by omega, fun q hq => ?_⟩
        exact (tarow_at hr rfl q hq).mv hms (by show ¬ g' = g; omega)
    · rw [List.getElem_set_ne (fun e => hjk' e.symm)]
      exact (h.new j hj' (by omega)).imp id fun ⟨g', h1, h2, h3, h4, h5⟩ => ⟨g', h1, h2, Nat.lt_of_lt_of_le h3 hm.size, h4, fun q hq => (h5 q hq).mv hm h4⟩

/-- All nodes are copied: they can be read. -/
theorem GT.rowV {V wr : World} {g nc : Nat} {l : List TN} {txs : List TX} (h : GT V wr g nc l txs l.length) (hl : l.length ≤ 60) (ha : ∀ x ∈ l, x.arcs.length ≤ 1000) : RowV wr.heap.size 4 (TNAt wr wr.heap.size) (.slice (some ⟨g, 0, none⟩) l.length nc) l := by
  have hgb := row_blk h.row (k := g) rfl
  have htl := h.len
  refine ⟨_, _, rfl, by omega, .inr ⟨g, 0, rfl, hgb.2.1, fun i hi => ?_⟩⟩
  have hi' : i < txs.length := by omega
  have hrow := h.row
  rw [← htl] at hrow
  have hx := txrow_at hrow (g := g) rfl i hi'
  have he : l[i] = (txs[i]).n := by
    have := h.eq
    subst this
    simp
  rw [he, Nat.zero_add]
  have hal : (txs[i]).n.arcs.length ≤ 1000 := by rw [← he]; exact ha _ (List.getElem_mem hi)
  refine ⟨⟨_, hx.c0, _, _, rfl, by omega, ?_⟩, hx.c1, hx.c2, hx.c3⟩
  exact (h.new i hi' hi).imp id fun ⟨g', h1, h2, h3, h4, h5⟩ => ⟨g', 0, h1, h3, fun q hq => by rw [Nat.zero_add]; exact h5 q hq⟩

/-- A process that is made. -/
theorem GT.pis {V w1 W : World} {g nc : Nat} {l : List TN} {ps : List (Int × Int)} {txs : List TX} (h : GT V w1 g nc l txs l.length) {ga gh ge : Nat} {AV : List Value} {rows : List FR} {Z : Nat → Prop} (hn : Nu w1 W) (hf : FeIs W l ps ga gh ge AV rows Z) (h1 : w1.heap.size ≤ ga) (h2 : w1.heap.size ≤ gh) (h3 : w1.heap.size ≤ ge) (hz : ∀ b, Z b → w1.heap.size ≤ b) :
    PIs W (fun b => V.heap.size ≤ b ∧ b < W.heap.size) ⟨l, txs, g, nc, ga, gh, ge, AV, rows, hereN l ps, everN l ps⟩ := by
  have hgb := row_blk h.row (k := g) rfl
  have hs := h.nu.size
  have hrow := row_mv hn h.row (fun _ _ => id)
  rw [← h.len] at hrow
  refine ⟨h.eq, ⟨hgb.1, Nat.lt_of_lt_of_le hgb.2.1 hn.size⟩, fun i hi => txrow_at hrow rfl i hi, fun x hx => ?_, ⟨Nat.le_trans hs h1, lt_of_block hf.av⟩, ⟨Nat.le_trans hs h2, lt_of_block hf.hs⟩, ⟨Nat.le_trans hs h3, lt_of_block hf.es⟩, hf.av, hf.hs, hf.es, hf.al, by simp [hereN], ?_, hf.rl, fun j hj => ⟨(hf.st j hj).1, (hf.st j hj).2.1.more (fun b hb => ⟨Nat.le_trans hs (hz b hb), hf.zt b hb⟩)⟩⟩
  · obtain ⟨i, hi, rfl⟩ := List.mem_iff_getElem.1 hx
    have hil : i < l.length := by rw [← h.len]; exact hi
    exact (h.new i hi hil).imp id fun ⟨g', q1, q2, q3, q4, q5⟩ => ⟨g', q1, ⟨q2, Nat.lt_of_lt_of_le q3 hn.size⟩, fun q hq => (q5 q hq).mv hn id⟩
  · rw [everN, List.length_map, leadsN_len]

end Go.Proofs.YtiinmaedmkgfoaaDoor
/-
  Raw processes are copied: the program's threadsOf.
-/
set_option linter.unusedVariables false
set_option linter.unusedSimpArgs false
namespace Go.Proofs.YtiinmaedmkgfoaaDoor
open Go.RowKit

section
variable {o : Oper} {a : Act} {w : World} {K : Act → World → Prop} {Q : Exit → Act → World → Prop} {d : Nat}
theorem lk_fieldTh0 {s b f : Nat} (hd : o.dst = some d) (ho : o.op = .fieldAddr 26 (.tmp s) 0) (hs : a.tmps[s]? = some (.pointer (some ⟨b, f, none⟩))) (hK : ∀ w', Nu w w' → K ⟨a.tmps.setIfInBounds d (.pointer (some ⟨b, f, none⟩)), a.defers⟩ w') : Oper.wp Tryd.prog o a w K Q := by
  have he : a.eval (.tmp s) = .pointer (some ⟨b, f, none⟩) := by simp [Act.eval, hs]
  unfold Oper.wp execOp
  simp only [ho, he, hd]
  go_simp
  exact hK w (Mv.refl _ _)
theorem lk_fieldTh2 {s b f : Nat} (hd : o.dst = some d) (ho : o.op = .fieldAddr 26 (.tmp s) 2) (hs : a.tmps[s]? = some (.pointer (some ⟨b, f, none⟩))) (hK : ∀ w', Nu w w' → K ⟨a.tmps.setIfInBounds d (.pointer (some ⟨b, f + 2, none⟩)), a.defers⟩ w') : Oper.wp Tryd.prog o a w K Q := by
  have he : a.eval (.tmp s) = .pointer (some ⟨b, f, none⟩) := by simp [Act.eval, hs]
  unfold Oper.wp execOp
  simp only [ho, he, hd]
  go_simp
  exact hK w (Mv.refl _ _)
theorem lk_fieldXq2 {s b f : Nat} (hd : o.dst = some d) (ho : o.op = .fieldAddr 111 (.tmp s) 2) (hs : a.tmps[s]? = some (.pointer (some ⟨b, f, none⟩))) (hK : ∀ w', Nu w w' → K ⟨a.tmps.setIfInBounds d (.pointer (some ⟨b, f + 2, none⟩)), a.defers⟩ w') : Oper.wp Tryd.prog o a w K Q := by
  have he : a.eval (.tmp s) = .pointer (some ⟨b, f, none⟩) := by simp [Act.eval, hs]
  unfold Oper.wp execOp
  simp only [ho, he, hd]
  go_simp
  exact hK w (Mv.refl _ _)
theorem lk_loadPs {s b f : Nat} {v : Value} (hd : o.dst = some d) (ho : o.op = .load 24 (.tmp s)) (hs : a.tmps[s]? = some (.pointer (some ⟨b, f, none⟩))) (h0 : w.cell? ⟨b, f, none⟩ = some v) (hK : ∀ w', Nu w w' → K ⟨a.tmps.setIfInBounds d v, a.defers⟩ w') : Oper.wp Tryd.prog o a w K Q := by
  have he : a.eval (.tmp s) = .pointer (some ⟨b, f, none⟩) := by simp [Act.eval, hs]
  unfold Oper.wp execOp
  simp only [ho, he, hd]
  go_simp
  exact hK w (Mv.refl _ _)
theorem lk_cloneTp {s : Nat} {v : Value} {R : Ending → World → Prop} (hd : o.dst = some d) (ho : o.op = .call { callee := .value (.func 41), args := #[.tmp s], argTypes := #[24] }) (hs : a.tmps[s]? = some v) (hc : Calls Tryd.prog 41 #[v] w R) (hK : ∀ e w', R e w' → ∃ x, e = .returned x ∧ K ⟨a.tmps.setIfInBounds d x, a.defers⟩ w') : Oper.wp Tryd.prog o a w K Q := by
  have he : a.eval (.tmp s) = v := by simp [Act.eval, hs]
  unfold Oper.wp execOp
  simp only [ho, hd]
  go_simp
  refine hc.mono ?_
  intro e w' hr
  obtain ⟨x, rfl, hk⟩ := hK e w' hr
  exact hk
theorem lk_cloneIn {s : Nat} {v : Value} {R : Ending → World → Prop} (hd : o.dst = some d) (ho : o.op = .call { callee := .value (.func 42), args := #[.tmp s], argTypes := #[22] }) (hs : a.tmps[s]? = some v) (hc : Calls Tryd.prog 42 #[v] w R) (hK : ∀ e w', R e w' → ∃ x, e = .returned x ∧ K ⟨a.tmps.setIfInBounds d x, a.defers⟩ w') : Oper.wp Tryd.prog o a w K Q := by
  have he : a.eval (.tmp s) = v := by simp [Act.eval, hs]
  unfold Oper.wp execOp
  simp only [ho, hd]
  go_simp
  refine hc.mono ?_
  intro e w' hr
  obtain ⟨x, rfl, hk⟩ := hK e w' hr
  exact hk
theorem lk_feetOf {s r : Nat} {v u : Value} {R : Ending → World → Prop} (hd : o.dst = some d) (ho : o.op = .call { callee := .value (.func 45), args := #[.tmp s, .tmp r], argTypes := #[71, 24] }) (hs : a.tmps[s]? = some v) (hr : a.tmps[r]? = some u) (hc : Calls Tryd.prog 45 #[v, u] w R) (hK : ∀ e w', R e w' → ∃ x, e = .returned x ∧ K ⟨a.tmps.setIfInBounds d x, a.defers⟩ w') : Oper.wp Tryd.prog o a w K Q := by
  have he : a.eval (.tmp s) = v := by simp [Act.eval, hs]
  have he' : a.eval (.tmp r) = u := by simp [Act.eval, hr]
  unfold Oper.wp execOp
  simp only [ho, hd]
  go_simp
  refine hc.mono ?_
  intro e w' hr
  obtain ⟨x, rfl, hk⟩ := hK e w' hr
  exact hk
theorem lk_buildX {s r : Nat} {fo po : Option Addr} {fn fc pn pc : Nat} (hd : o.dst = some d) (ho : o.op = .build 111 #[(2, .tmp s), (1, .tmp r)]) (hs : a.tmps[s]? = some (.slice po pn pc)) (hr : a.tmps[r]? = some (.slice fo fn fc)) (hK : ∀ w', Nu w w' → K ⟨a.tmps.setIfInBounds d (.agg #[.slice none 0 0, .slice fo fn fc, .slice po pn pc, .slice none 0 0]), a.defers⟩ w') : Oper.wp Tryd.prog o a w K Q := by
  have hes : a.eval (.tmp s) = .slice po pn pc := by simp [Act.eval, hs]
  have her : a.eval (.tmp r) = .slice fo fn fc := by simp [Act.eval, hr]
  unfold Oper.wp execOp
  simp only [ho, hd]
  go_simp
  exact hK w (Mv.refl _ _)
theorem lk_boxX {s : Nat} {fo po : Option Addr} {fn fc pn pc : Nat} (hd : o.dst = some d) (ho : o.op = .box 111 (.tmp s)) (hs : a.tmps[s]? = some (.agg #[.slice none 0 0, .slice fo fn fc, .slice po pn pc, .slice none 0 0])) (hK : K ⟨a.tmps.setIfInBounds d (.pointer (some ⟨w.heap.size, 0, none⟩)), a.defers⟩ (w.alloc (.cells #[.slice none 0 0, .slice fo fn fc, .slice po pn pc, .slice none 0 0] 111))) : Oper.wp Tryd.prog o a w K Q := by
  have hes : a.eval (.tmp s) = .agg #[.slice none 0 0, .slice fo fn fc, .slice po pn pc, .slice none 0 0] := by simp [Act.eval, hs]
  unfold Oper.wp execOp
  simp only [ho, hd]
  go_simp
  exact hK
theorem lk_buildP {s r : Nat} {no : Option Addr} {nn nc : Nat} {x0 x1 x2 : Option Addr} {n0 n1 n2 c0 c1 c2 : Nat} (hd : o.dst = some d) (ho : o.op = .build 120 #[(0, .tmp s), (1, .tmp r)]) (hs : a.tmps[s]? = some (.slice no nn nc)) (hr : a.tmps[r]? = some (.agg #[.slice x0 n0 c0, .slice x1 n1 c1, .slice x2 n2 c2])) (hK : ∀ w', Nu w w' → K ⟨a.tmps.setIfInBounds d (.agg #[.slice no nn nc, .slice x0 n0 c0, .slice x1 n1 c1, .slice x2 n2 c2]), a.defers⟩ w') : Oper.wp Tryd.prog o a w K Q := by
  have hes : a.eval (.tmp s) = .slice no nn nc := by simp [Act.eval, hs]
  have her : a.eval (.tmp r) = .agg #[.slice x0 n0 c0, .slice x1 n1 c1, .slice x2 n2 c2] := by simp [Act.eval, hr]
  unfold Oper.wp execOp
  simp only [ho, hd]
  go_simp
  exact hK w (Mv.refl _ _)
theorem lk_rowP {s : Nat} {no : Option Addr} {nn nc : Nat} {x0 x1 x2 : Option Addr} {n0 n1 n2 c0 c1 c2 : Nat} (hd : o.dst = some d) (ho : o.op = .buildSlice 109 1 #[(0, .tmp s)]) (hs : a.tmps[s]? = some (.agg #[.slice no nn nc, .slice x0 n0 c0, .slice x1 n1 c1, .slice x2 n2 c2])) (hK : K ⟨a.tmps.setIfInBounds d (.slice (some ⟨w.heap.size, 0, none⟩) 1 1), a.defers⟩ (w.alloc (.cells #[.slice no nn nc, .slice x0 n0 c0, .slice x1 n1 c1, .slice x2 n2 c2] 120))) : Oper.wp Tryd.prog o a w K Q := by
  have hes : a.eval (.tmp s) = .agg #[.slice no nn nc, .slice x0 n0 c0, .slice x1 n1 c1, .slice x2 n2 c2] := by simp [Act.eval, hs]
  unfold Oper.wp execOp
  simp only [ho, hd]
  go_simp
  exact hK
theorem lk_storePr {s r b f : Nat} {u : Value} {ao : Option Addr} {n c : Nat} (hd : o.dst = none) (ho : o.op = .store 109 (.tmp s) (.tmp r)) (hs : a.tmps[s]? = some (.pointer (some ⟨b, f, none⟩))) (hr : a.tmps[r]? = some (.slice ao n c)) (h0 : w.cell? ⟨b, f, none⟩ = some u) (hf : w.frozen? ⟨b, f, none⟩ = false) (hK : K a (w.setCell ⟨b, f, none⟩ (.slice ao n c))) : Oper.wp Tryd.prog o a w K Q := by
  have hes : a.eval (.tmp s) = .pointer (some ⟨b, f, none⟩) := by simp [Act.eval, hs]
  have her : a.eval (.tmp r) = .slice ao n c := by simp [Act.eval, hr]
  unfold Oper.wp execOp
  simp only [ho, hd, hes, her]
  go_simp
  exact hK
end

def R1o (hb B : Nat) (v0 v2 : Value) (init : List Int) (props : List (Int × Int)) : Nat → World → Value → Prop
  | 0, _, v => v = .pointer (some ⟨hb, 2, none⟩)
  | 1, _, v => v = v2
  | 2, w, v => ∃ pa pc, v = .slice pa props.length pc ∧ w.ownsRow B 70 2 (.slice pa props.length pc) props.length (tpflat props)
  | 3, _, v => v = .pointer (some ⟨hb, 0, none⟩)
  | 4, _, v => v = v0
  | 5, w, v => ∃ fa fc, v = .slice fa init.length fc ∧ w.ownsRow B 3 1 (.slice fa init.length fc) init.length (init.map (Value.int .i64))
  | 6, w, v => ∃ fa fc pa pc, v = .agg #[.slice none 0 0, .slice fa init.length fc, .slice pa props.length pc, .slice none 0 0] ∧ w.ownsRow B 3 1 (.slice fa init.length fc) init.length (init.map (Value.int .i64)) ∧ w.ownsRow B 70 2 (.slice pa props.length pc) props.length (tpflat props)
  | 7, w, v => ∃ xb fa fc pa pc, v = .pointer (some ⟨xb, 0, none⟩) ∧ B ≤ xb ∧ w.heap[xb]? = some (.cells #[.slice none 0 0, .slice fa init.length fc, .slice pa props.length pc, .slice none 0 0] 111 (0, 0)) ∧ w.ownsRow B 3 1 (.slice fa init.length fc) init.length (init.map (Value.int .i64)) ∧ w.ownsRow B 70 2 (.slice pa props.length pc) props.length (tpflat props)
  | 8, w, v => ∃ xb fa fc pa pc, v = .pointer (some ⟨xb, 0, none⟩) ∧ B ≤ xb ∧ w.heap[xb]? = some (.cells #[.slice none 0 0, .slice fa init.length fc, .slice pa props.length pc, .slice none 0 0] 111 (0, 0)) ∧ w.ownsRow B 3 1 (.slice fa init.length fc) init.length (init.map (Value.int .i64)) ∧ w.ownsRow B 70 2 (.slice pa props.length pc) props.length (tpflat props)
  | _, _, v => v = undef
theorem R1o.nu {hb B : Nat} {v0 v2 : Value} {init : List Int} {props : List (Int × Int)} : ∀ (i : Nat) (w w' : World) (v : Value), Nu w w' → R1o hb B v0 v2 init props i w v → R1o hb B v0 v2 init props i w' v := by
  intro i w w' v hn h
  unfold R1o at h ⊢
  split <;> simp only at h <;> first
    | exact h
    | (obtain ⟨a, c, rfl, h2⟩ := h; exact ⟨a, c, rfl, row_mv hn h2 (fun _ _ => id)⟩)
    | (obtain ⟨a, c, p, q, rfl, h2, h3⟩ := h; exact ⟨a, c, p, q, rfl, row_mv hn h2 (fun _ _ => id), row_mv hn h3 (fun _ _ => id)⟩)
    | (obtain ⟨x, a, c, p, q, rfl, h0, h1, h2, h3⟩ := h; exact ⟨x, a, c, p, q, rfl, h0, hn.heap h1 id, row_mv hn h2 (fun _ _ => id), row_mv hn h3 (fun _ _ => id)⟩)

theorem FeIs.nu {A A' : World} {l : List TN} {ps : List (Int × Int)} {ga gh ge : Nat} {AV : List Value} {rows : List FR} {Z : Nat → Prop} (h : FeIs A l ps ga gh ge AV rows Z) (hn : Nu A A') : FeIs A' l ps ga gh ge AV rows Z :=
  ⟨hn.heap h.av id, hn.heap h.hs id, hn.heap h.es id, h.al, h.rl, fun j hj => ⟨(h.st j hj).1, (h.st j hj).2.1.mv hn (fun _ _ => id) (fun _ h => h), (h.st j hj).2.2⟩, fun b hb => Nat.lt_of_lt_of_le (h.zt b hb) hn.size⟩
/-- What feetOf has left, in memory that is new. -/
def FeN (A : World) (H : Nat) (l : List TN) (ps : List (Int × Int)) (ga gh ge : Nat) (AV : List Value) (rows : List FR) : Prop := ∃ Z, FeIs A l ps ga gh ge AV rows Z ∧ H ≤ ga ∧ H ≤ gh ∧ H ≤ ge ∧ ∀ b, Z b → H ≤ b
theorem FeN.nu {A A' : World} {H : Nat} {l : List TN} {ps : List (Int × Int)} {ga gh ge : Nat} {AV : List Value} {rows : List FR} (h : FeN A H l ps ga gh ge AV rows) (hn : Nu A A') : FeN A' H l ps ga gh ge AV rows := by
  obtain ⟨Z, h1, h2⟩ := h
  exact ⟨Z, h1.nu hn, h2⟩

def R15o (xb : Nat) (qo : Option Addr) (qn qc g nc : Nat) (po : Option Addr) (pn pc H : Nat) (l : List TN) (ps : List (Int × Int)) : Nat → World → Value → Prop
  | 0, _, v => v = .pointer (some ⟨xb, 0, none⟩)
  | 1, _, v => v = .pointer (some ⟨xb, 0, none⟩)
  | 2, _, v => v = .pointer (some ⟨xb, 0, none⟩)
  | 3, _, v => v = .pointer (some ⟨xb, 3, none⟩)
  | 4, _, v => v = .slice qo qn qc
  | 5, _, v => v = .slice (some ⟨g, 0, none⟩) l.length nc
  | 6, _, v => v = .slice (some ⟨g, 0, none⟩) l.length nc
  | 7, _, v => v = .pointer (some ⟨xb, 0, none⟩)
  | 8, _, v => v = .pointer (some ⟨xb, 0, none⟩)
  | 9, _, v => v = .pointer (some ⟨xb, 2, none⟩)
  | 10, _, v => v = .slice po pn pc
  | 11, w, v => ∃ ga gh ge AV rows, v = .agg #[.slice (some ⟨ga, 0, none⟩) l.length l.length, .slice (some ⟨gh, 0, none⟩) l.length l.length, .slice (some ⟨ge, 0, none⟩) l.length l.length] ∧ FeN w H l ps ga gh ge AV rows
  | 12, w, v => ∃ ga gh ge AV rows, v = .agg #[.slice (some ⟨g, 0, none⟩) l.length nc, .slice (some ⟨ga, 0, none⟩) l.length l.length, .slice (some ⟨gh, 0, none⟩) l.length l.length, .slice (some ⟨ge, 0, none⟩) l.length l.length] ∧ FeN w H l ps ga gh ge AV rows
  | 13, w, v => ∃ rb ga gh ge AV rows, v = .slice (some ⟨rb, 0, none⟩) 1 1 ∧ w.heap[rb]? = some (.cells #[.slice (some ⟨g, 0, none⟩) l.length nc, .slice (some ⟨ga, 0, none⟩) l.length l.length, .slice (some ⟨gh, 0, none⟩) l.length l.length, .slice (some ⟨ge, 0, none⟩) l.length l.length] 120 (0, 0)) ∧ FeN w H l ps ga gh ge AV rows
  | _, _, v => v = undef
theorem R15o.nu {xb : Nat} {qo : Option Addr} {qn qc g nc : Nat} {po : Option Addr} {pn pc H : Nat} {l : List TN} {ps : List (Int × Int)} : ∀ (i : Nat) (w w' : World) (v : Value), Nu w w' → R15o xb qo qn qc g nc po pn pc H l ps i w v → R15o xb qo qn qc g nc po pn pc H l ps i w' v := by
  intro i w w' v hn h
  unfold R15o at h ⊢
  split <;> simp only at h <;> first
    | exact h
    | (obtain ⟨a, b, c, d, e, rfl, h2⟩ := h; exact ⟨a, b, c, d, e, rfl, h2.nu hn⟩)
    | (obtain ⟨r, a, b, c, d, e, rfl, h1, h2⟩ := h; exact ⟨r, a, b, c, d, e, rfl, hn.heap h1 id, h2.nu hn⟩)

theorem XI.propsV {H : Nat} {W : World} {xb : Nat} {rv fv qv : Value} {po : Option Addr} {pc : Nat} {rs fs : List Int} {ps : List (Int × Int)} {pxs : List PX} {Z : Nat → Prop} (h : XI H W xb rv fv (.slice po ps.length pc) qv rs fs ps pxs Z) (hl : ps.length ≤ 60) : RowV W.heap.size 2 (TRAt W) (.slice po ps.length pc) ps := by
  refine ⟨po, pc, rfl, by omega, ?_⟩
  rcases h.props.2 with ⟨_, hn⟩ | ⟨g, cap', cur, hv, hg, hblk, _⟩
  · exact .inl hn
  · have hv' := hv
    simp only [Value.slice.injEq] at hv'
    obtain ⟨rfl, _, _⟩ := hv'
    exact .inr ⟨g, 0, rfl, lt_of_block hblk, fun i hi => by rw [Nat.zero_add]; exact tprow_at h.props rfl i hi⟩

theorem tsm_push {t : Thr} {pxs : List PX} {x : PX} (h : TSm t pxs) (hr : ∀ j (h : j < x.rows.length) (n : TN), x.l[j]? = some n → x.rows[j].fs = arcsF x.l t.props n) (hh : x.Hs = hereN x.l t.props) (he : x.Es = everN x.l t.props) : TSm t (pxs ++ [x]) := by
  intro y hy
  rcases List.mem_append.1 hy with hy | hy
  · exact h y hy
  · rw [List.mem_singleton] at hy
    subst hy
    exact ⟨hr, hh, he⟩

set_option maxHeartbeats 8000000 in
set_option maxRecDepth 40000 in
theorem threadsOf_any (w : World) (v0 v1 v2 : Value) (t : Thr) (h : ThrAt w w.heap.size v0 v1 v2 t) (hm : mayT t = true) (hT : TabAt 0 Lib.deBruijn64tab w) : Calls Tryd.prog 20 #[.agg #[v0, v1, v2]] w fun e w' => Nu w w' ∧ ∃ tb ro rc fo fc po pc qo qc pxs, e = .returned (.pointer (some ⟨tb, 0, none⟩)) ∧ TSm t pxs ∧ TIs w' (fun b => b = 0 ∨ (w.heap.size ≤ b ∧ b < w'.heap.size)) tb t ro rc fo fc po pc qo qc pxs := by
  obtain ⟨⟨ia, ic, rfl, hi⟩, ⟨pa, pc0, rfl, hpl, hp⟩, ⟨ra, rc0, rfl, hrl, hr⟩⟩ := h
  have HI := hid hi
  have HP := hid hp
  have HR := hid hr
  have HM := hid hm
  have HT := hid hT
  have hm3 : t.init.length ≤ 16 ∧ t.procs.length ≤ 8 ∧ t.props.length ≤ 60 := by obtain ⟨h1, h2, h3, _⟩ := mayT_parts hm; exact ⟨h1, h2, h3⟩
  obtain ⟨hm1, hm2, hm3⟩ := hm3
  have HN1 : Hid (Nu w (w.alloc (.cells #[.slice ia t.init.length ic, .slice pa t.procs.length pc0, .slice ra t.props.length rc0] 26))) := Mv.alloc _ _ _
  have HB1 : Hid ((w.alloc (.cells #[.slice ia t.init.length ic, .slice pa t.procs.length pc0, .slice ra t.props.length rc0] 26)).heap[w.heap.size]? = some (.cells #[.slice ia t.init.length ic, .slice pa t.procs.length pc0, .slice ra t.props.length rc0] 26 (0, 0))) := heap_alloc_new w _
  clear hi hp hr hm hT hpl hrl
  go_enter Tryd.func20, Tryd.ntmps20
  go_upto_region 1 with fail
  generalize w.alloc (.cells #[.slice ia t.init.length ic, .slice pa t.procs.length pc0, .slice ra t.props.length rc0] 26) = w1 at *
  obtain ⟨B, HBE⟩ : ∃ B, Hid (w1.heap.size = B) := ⟨_, rfl⟩
  obtain ⟨c0, c1, c2⟩ := cells3 HB1.out
  rename_i KC hKC
  refine wp_lookR (R1o w.heap.size B (.slice ia t.init.length ic) (.slice ra t.props.length rc0) t.init t.props) R1o.nu (by kernel_rfl) (by kernel_rfl) ?step ?last
  case step =>
    intro i o d a w' ho hd hn hfr had K hK
    have hi : i < 9 := (Array.getElem?_eq_some_iff.1 ho).1
    have f1 := hfr 1 (by kernel_rfl)
    have hBw : B ≤ w'.heap.size := by have := HBE.out; have := hn.size; omega
    have : i = 0 ∨ i = 1 ∨ i = 2 ∨ i = 3 ∨ i = 4 ∨ i = 5 ∨ i = 6 ∨ i = 7 ∨ i = 8 := by omega
    rcases this with rfl | rfl | rfl | rfl | rfl | rfl | rfl | rfl | rfl <;> cases ho <;> cases hd
    · exact ite_yes (want_none rfl) (lk_fieldTh2 rfl rfl f1 (fun w' hm => hK w' _ hm rfl))
    · obtain ⟨⟨_, h0, rfl⟩, _⟩ := had; exact ite_yes (want_none rfl) (lk_loadPs rfl rfl h0 (cell_mv hn c2 id) (fun w' hm => hK w' _ hm rfl))
    · obtain ⟨⟨_, h0, rfl⟩, _⟩ := had
      refine ite_yes (want_none rfl) (lk_cloneTp rfl rfl h0 (Clone_tp_any w' ra rc0 t.props ?_ hm3) ?_)
      · exact HR.out.imp id fun ⟨b, off, h1, h2, h3⟩ => ⟨b, off, h1, fun i hi => ⟨cell_mv (mv0 HN1.out hn) (h3 i hi).1 id, cell_mv (mv0 HN1.out hn) (h3 i hi).2 id⟩⟩
      · rintro e w2 ⟨hn2, ao', cap', rfl, hown⟩
        exact ⟨_, rfl, hK w2 _ hn2 ⟨ao', cap', rfl, row_base hown hBw⟩⟩
    · exact ite_yes (want_none rfl) (lk_fieldTh0 rfl rfl f1 (fun w' hm => hK w' _ hm rfl))
    · obtain ⟨⟨_, h0, rfl⟩, _⟩ := had; exact ite_yes (want_none rfl) (lk_loadI rfl rfl h0 (cell_mv hn c0 id) (fun w' hm => hK w' _ hm rfl))
    · obtain ⟨⟨_, h0, rfl⟩, _⟩ := had
      refine ite_yes (want_none rfl) (lk_cloneIn rfl rfl h0 (CloneR_any w' w.heap.size ia ic t.init (HI.out.below (mv0 HN1.out hn).nu_below (Nat.le_refl _))) ?_)
      rintro e w2 ⟨hn2, ao', cap', rfl, hown⟩
      exact ⟨_, rfl, hK w2 _ hn2 ⟨ao', cap', rfl, row_base hown hBw⟩⟩
    · obtain ⟨⟨_, h0, pa', pc', rfl, ho1⟩, ⟨_, h1, fa', fc', rfl, ho2⟩, _⟩ := had
      exact ite_yes (want_none rfl) (lk_buildX rfl rfl h0 h1 (fun w' hm => hK w' _ hm ⟨_, _, _, _, rfl, row_mv hm ho2 (fun _ _ => id), row_mv hm ho1 (fun _ _ => id)⟩))
    · obtain ⟨⟨_, h0, fa', fc', pa', pc', rfl, ho1, ho2⟩, _⟩ := had
      have ha := Mv.alloc (fun _ => False) w' (.cells #[.slice none 0 0, .slice fa' t.init.length fc', .slice pa' t.props.length pc', .slice none 0 0] 111)
      exact ite_yes (want_none rfl) (lk_boxX rfl rfl h0 (hK _ _ ha ⟨_, _, _, _, _, rfl, hBw, heap_alloc_new _ _, row_mv ha ho1 (fun _ _ => id), row_mv ha ho2 (fun _ _ => id)⟩))
    · obtain ⟨⟨_, h0, hx⟩, _⟩ := had
      obtain ⟨xb, fa', fc', pa', pc', rfl, h1, h2, h3, h4⟩ := id hx
      exact ite_yes (want_none rfl) (lk_assign rfl rfl h0 (fun w' hm => hK w' _ hm ⟨_, _, _, _, _, rfl, h1, hm.heap h2 id, row_mv hm h3 (fun _ _ => id), row_mv hm h4 (fun _ _ => id)⟩))
  case last =>
    intro a w2 hn2 hdf hsz hfr htv
    obtain ⟨v2', t2, _⟩ := htv 2 _ 10 rfl rfl
    obtain ⟨v5, t5, _⟩ := htv 5 _ 13 rfl rfl
    obtain ⟨v6, t6, _⟩ := htv 6 _ 14 rfl rfl
    obtain ⟨v7, t7, _⟩ := htv 7 _ 15 rfl rfl
    obtain ⟨_, t8, xb, fa, fc, po, pc, rfl, hxb, hbx, hof, hop⟩ := htv 8 _ 3 rfl rfl
    have htm := fill_eqN (vals := fun i => ([.pointer (some ⟨w.heap.size, 2, none⟩), .slice ra t.props.length rc0, v2', .pointer (some ⟨w.heap.size, 0, none⟩), .slice ia t.init.length ic, v5, v6, v7, .pointer (some ⟨xb, 0, none⟩)] : List Value).getD i undef) (by kernel_rfl) hfr (fun i o d hi hd => by
      have hi' : i < 9 := (Array.getElem?_eq_some_iff.1 hi).1
      obtain ⟨v, h, hv⟩ := htv i o d hi hd
      have : i = 0 ∨ i = 1 ∨ i = 2 ∨ i = 3 ∨ i = 4 ∨ i = 5 ∨ i = 6 ∨ i = 7 ∨ i = 8 := by omega
      rcases this with rfl | rfl | rfl | rfl | rfl | rfl | rfl | rfl | rfl <;> cases hi <;> cases hd <;> first | exact t2 | exact t5 | exact t6 | exact t7 | exact t8 | exact h.trans (congrArg some hv))
    refine hKC _ _ ?_
    have HN2 := hid hn2
    have HX0 : Hid (XI B w2 xb (.slice none (List.length (α := Int) []) 0) (.slice fa t.init.length fc) (.slice po t.props.length pc) (.slice none (List.length (α := PX) []) 0) [] t.init t.props [] (fun _ => False)) := ⟨hbx, hxb, ⟨rfl, .inl ⟨rfl, rfl⟩⟩, hof, hop, ⟨rfl, .inl ⟨rfl, rfl⟩⟩, fun b hb => absurd hb (by simp [Value.ownBlock]), fun b hb => hb.elim, fun x hx => absurd hx (by simp)⟩
    rw [act_eq' htm hdf]
    clear htm hdf hsz hfr htv t2 t5 t6 t7 t8 hn2 hKC hbx hof hop hxb
    simp only [fill, List.getD_cons_succ, List.getD_cons_zero, List.setIfInBounds_toArray, List.set_cons_succ, List.set_cons_zero]
    have c0 := cell_mv HN2.out c0 id
    obtain ⟨i0, hi0, hz0, hz1, hz2⟩ := info_parts c_infoInt
    have HI0 := hid (And.intro hi0 (And.intro hz0 (And.intro hz1 hz2)))
    clear hi0 hz0 hz1 hz2
    go_upto_region 3 with fail
    go_wp2
    go_loopw [19] (fun iv wr => ∃ (rs : List Int) (ro : Option Addr) (rc : Nat), rs.length ≤ t.init.length ∧ iv = .int .i64 (rs.length : Int) ∧ Hid (rs = List.replicate rs.length 256) ∧ Hid (XI B wr xb (.slice ro rs.length rc) (.slice fa t.init.length fc) (.slice po t.props.length pc) (.slice none (List.length (α := PX) []) 0) rs t.init t.props [] (fun _ => False)) ∧ Hid (Nu w1 wr)) (fun iv _ => t.init.length - (intOf iv).toNat)
    case atStart => exact ⟨[], none, 0, Nat.zero_le _, rfl, rfl, HX0.out, HN2.out⟩
    case round =>
      obtain ⟨rs, ro, rc, hrl, rfl, HRS, HXI, HNR⟩ := hrel
      clear HX0
      rcases Nat.lt_or_ge rs.length t.init.length with hlt | hge
      case inl =>
        have hlt' : (rs.length : Int) < (t.init.length : Int) := by omega
        have HLT := hid hlt
        obtain ⟨x0, x1, x2, x3⟩ := cells4 HXI.out.blk
        have f0 := free_blk HXI.out.blk 0
        have hxl : xb < wr.heap.size := lt_of_block HXI.out.blk
        have HA4 : Hid (Nu wr (wr.alloc (.cells #[.int .i64 256] 3))) := Mv.alloc _ _ _
        have HX4 := hid (HXI.out.nu HA4.out)
        have HNB : Hid (∀ q v, ([.int .i64 256] : List Value)[q]? = some v → (wr.alloc (.cells #[.int .i64 256] 3)).cell? ((⟨wr.heap.size, 0, none⟩ : Addr).add q) = some v) := fun q v hj => by
          rw [add_block, cell_blk (heap_alloc_new wr _)]; simpa using hj
        have HBS : Hid (B ≤ wr.heap.size) := by have := HNR.out.size; have := HBE.out; show _ ≤ _; omega
        clear hlt
        go_wp2_with (at_builtin; refine wpList_append_lies _ rfl _ _ 108 rfl B 3 i0 (.int .i64 0) 1 8 Tryd.underlying108 HI0.out.1 HI0.out.2.1 HI0.out.2.2.1 HI0.out.2.2.2 rfl (by decide) _ rs.length (rs.map (Value.int .i64)) rfl HX4.out.row ⟨wr.heap.size, 0, none⟩ 1 1 [.int .i64 256] rfl rfl HNB.out (by simp [Value.oneCell']) (by decide) (by unfold maxLen; omega) (by omega) (by have := HBS.out; simp; omega) _ rfl ?_)
        intro g5 cap5 w5 hown hgrow hat hg5
        have HPU := hid (HX4.out.pushR (Mv.grown hgrow) hown (hat.imp id (fun e => by first | omega | (simp only [World.size_alloc] at e ⊢; omega))))
        have hb5 := (Mv.grown hgrow).heap HX4.out.blk (fun e => row_off HX4.out.row HX4.out.blk (by decide) _ e rfl)
        have k0 := (cells4 hb5).1
        have f5 := free_blk hb5 0
        have HLE : Hid ((rs ++ [256]).length = rs.length + 1) := by show _ = _; simp
        have HRE : Hid (rs ++ [256] = List.replicate (rs ++ [256]).length 256) := by
          show _ = _
          rw [HLE.out, List.replicate_succ', ← HRS.out]
        clear hown hgrow hat hg5 x0 x1 x2 x3 f0 hb5
        go_upto_region 5 with fail
        generalize w5.setCell ⟨xb, 0, none⟩ (.slice (some ⟨g5, 0, none⟩) (rs.length + 1) cap5) = w7 at *
        have HN7 : Hid (Nu w1 w7) := (mv0 HNR.out HA4.out).trans HPU.out.2 (fun y hy => .inr (by have := HBE.out; omega))
        have HX7 := hid HPU.out.1
        clear HPU k0 f5
        go_wp2
        go_roundw
        case rel => exact ⟨rs ++ [256], some ⟨g5, 0, none⟩, cap5, by rw [HLE.out]; exact HLT.out, by rw [HLE.out]; go_num, HRE.out, HX7.out, HN7.out⟩
        case measure => have := HLT.out; simp [intOf]; omega
      case inr =>
        have hre : rs.length = t.init.length := by omega
        have he' : ¬ (rs.length : Int) < (t.init.length : Int) := by omega
        have c1 := cell_mv HNR.out c1 id
        have HRE : Hid (rs = List.replicate t.init.length 256) := by rw [← hre]; exact HRS.out
        clear hge hrl
        have HX2 : Hid (XI B wr xb (.slice ro rs.length rc) (.slice fa t.init.length fc) (.slice po t.props.length pc) (.slice none (List.length (α := PX) []) 0) rs t.init t.props [] (fun _ => False)) := HXI.out
        clear HXI
        go_upto_region 7 with fail
        go_loopw [34] (fun iv wr => ∃ (pxs : List PX) (rs fs : List Int) (ro fo qo : Option Addr) (rc fc qc : Nat) (Z : Nat → Prop), pxs.length ≤ t.procs.length ∧ iv = .int .i64 (pxs.length : Int) ∧ Hid (pxs.map PX.l = t.procs.take pxs.length) ∧ Hid (rs = List.replicate t.init.length 256 ++ ((t.procs.take pxs.length).map fun l => (l.length : Int)) ∧ fs = t.init ++ List.replicate pxs.length 0) ∧ Hid (XI B wr xb (.slice ro rs.length rc) (.slice fo fs.length fc) (.slice po t.props.length pc) (.slice qo pxs.length qc) rs fs t.props pxs Z) ∧ Hid (TSm t pxs) ∧ Hid (Nu w1 wr)) (fun iv _ => t.procs.length - (intOf iv).toNat)
        case atStart => exact ⟨[], rs, t.init, ro, fa, none, rc, fc, 0, _, Nat.zero_le _, rfl, rfl, ⟨by rw [HRE.out]; simp, by simp⟩, HX2.out, fun x hx => absurd hx (by simp), HNR.out⟩
        case round =>
          rename World => V
          clear HX2 HNR HRE HRS
          obtain ⟨pxs, rs, fs, ro, fo, qo, rc, fc, qc, Z, hpl, rfl, HPE, HRF, HXI, HSM, HNV⟩ := hrel
          rcases Nat.lt_or_ge pxs.length t.procs.length with hlt | hge
          case inr =>
            have he2 : ¬ (pxs.length : Int) < (t.procs.length : Int) := by omega
            have HPL : Hid (pxs.length = t.procs.length) := by show _ = _; omega
            clear hge hpl
            go_wp2
            go_ret
            have hpe : pxs.map PX.l = t.procs := by have := HPE.out; rwa [HPL.out, List.take_length] at this
            have hrs : rs = ints (boundsN t) := by
              rw [HRF.out.1, HPL.out, List.take_length, boundsN, ints]
              simp
            have hfs : fs = ints (firstN t) := by
              obtain ⟨_, _, _, h4, _⟩ := mayT_parts HM.out
              rw [HRF.out.2, HPL.out, firstN, ints, List.map_append, List.map_map, List.map_replicate]
              congr 1
              have : ∀ n ∈ t.init, ((fun n : Nat => (n : Int)) ∘ Int.toNat) n = n := fun n hn => by
                have := h4 n hn
                simp only [isV, Bool.and_eq_true, decide_eq_true_eq] at this
                simp only [Function.comp]
                omega
              rw [List.map_congr_left this, List.map_id']
            have hx := HXI.out
            rw [hrs, hfs] at hx
            refine ⟨mv0 HN1.out HNV.out, xb, rfl, ro, rc, fo, fc, po, pc, qo, qc, pxs, HSM.out, hx.tis hpe HM.out (fun b hb hlt => .inr ⟨?_, hlt⟩)⟩
            have h1 := HBE.out
            have h2 := HN1.out.size
            omega
          have hlt' : (pxs.length : Int) < (t.procs.length : Int) := by omega
          have HLT := hid hlt
          rcases HP.out with h0 | ⟨b, off, rfl, hb, hit⟩
          · omega
          obtain ⟨_, hcv, na, nc0, rfl, hnl, hnr⟩ := hit pxs.length hlt
          have HLL : Hid (t.procs[pxs.length]? = some t.procs[pxs.length]) := hid (List.getElem?_eq_getElem hlt)
          have hpb := (mayT_parts HM.out).2.2.2.2.1 _ (List.getElem_mem hlt)
          generalize t.procs[pxs.length] = l at *
          obtain ⟨hl1, hl60, hla⟩ := procB_parts hpb
          have HLA := hid hla
          have HPB := hid hpb
          have hnv : Nu w V := mv0 HN1.out HNV.out
          obtain ⟨txs, htn, htl, htr, hta⟩ := RowV.txs (W := V) (B := w.heap.size) (ao := na) (cap := nc0) (l := l) ⟨na, nc0, rfl, hnl, hnr.imp id fun ⟨b, off, h1, h2, h3⟩ => ⟨b, off, h1, h2, fun i hi => (h3 i hi).below hnv.nu_below (Nat.le_refl _) h2⟩⟩
          have hcv := cell_mv hnv hcv id
          rw [Nat.mul_one] at hcv
          have hcl := Clone_tx_any V na nc0 txs (htr.imp (fun h => by rw [htl]; exact h) fun ⟨b, off, h1, _, h3⟩ => ⟨b, off, h1, h3⟩) (by rw [htl]; exact hl60)
          rw [htl] at hcl
          have HCL := hid (fun (_ : Unit) => hcl)
          have HTN := hid htn
          have HTL := hid htl
          have HTA := hid hta
          clear hcl htn htl hta htr hnr hnl hit hla hpb hnv hlt hpl
          go_upto_region 9 with fail
          go_upto_region 10 with (go_at_call 43; refine (HCL.out ()).mono ?_; rintro e w3 ⟨hn3, ao3, c3, rfl, hown3⟩; have HN3 := hid hn3; have HOW3 := hid hown3; clear hn3 hown3)
          obtain ⟨g, rfl⟩ : ∃ g, ao3 = some ⟨g, 0, none⟩ := by
            rcases HOW3.out.2 with ⟨_, hn⟩ | ⟨g, _, _, hv, _⟩
            · omega
            · simp only [Value.slice.injEq] at hv
              exact ⟨g, hv.1⟩
          have HGT0 : Hid (GT V w3 g c3 l txs 0) := ⟨HTN.out, HOW3.out, fun j hj _ => (HTA.out _ (List.getElem_mem hj)).below (HN3.out.nu_below.mono (mv0 HN1.out HNV.out).size) (mv0 HN1.out HNV.out).size, fun j hj h => absurd h (by omega), HN3.out⟩
          clear HOW3 HTA HCL HN3 hcv
          go_wp2
          go_loopw [42] (fun kv wk => ∃ (k : Nat) (txs : List TX), k ≤ l.length ∧ kv = .int .i64 (k : Int) ∧ Hid (GT V wk g c3 l txs k)) (fun kv _ => l.length - (intOf kv).toNat)
          case atStart => exact ⟨0, txs, Nat.zero_le _, rfl, HGT0.out⟩
          case round =>
            rename World => wk
            clear HGT0
            obtain ⟨k, txs, hk, rfl, HGT⟩ := hrel
            rcases Nat.lt_or_ge k l.length with hklt | hkge
            case inl =>
              have hklt' : (k : Int) < (l.length : Int) := by omega
              have hkt : k < txs.length := by rw [HGT.out.len]; exact hklt
              have hrow := HGT.out.row
              rw [← HGT.out.len] at hrow
              have hx0 := (txrow_at hrow (g := g) rfl k hkt).c0
              have har := HGT.out.old k hkt (Nat.le_refl _)
              have hle : (txs[k]).n ∈ l := by
                rw [← HGT.out.eq]
                exact List.mem_map.2 ⟨_, List.getElem_mem hkt, rfl⟩
              have hal := (HLA.out _ hle).1
              have hcl := Clone_ta_any wk (txs[k]).vo (txs[k]).vc (txs[k]).n.arcs (har.imp id fun ⟨b, off, h1, _, h3⟩ => ⟨b, off, h1, h3⟩) hal
              have HCL := hid (fun (_ : Unit) => hcl)
              have HST := hid (fun (w5 : World) (hn : Nu wk w5) (ao' : Option Addr) (cap' : Nat) => HGT.out.step (w2 := w5) hkt hn (ao' := ao') (cap' := cap'))
              have hgb := row_blk HGT.out.row (k := g) rfl
              have HGB := hid hgb
              have HKL := hid hklt
              generalize (txs[k]).vo = vo at *
              generalize (txs[k]).vc = vc at *
              generalize hte : (txs[k]).n = x at *
              clear hte hcl hrow har hle hgb hklt hk
              obtain ⟨_, hgl, cs, hcs⟩ := HGB.out
              have HCS := hid hcs
              clear hcs
              go_upto_region 13 with fail
              go_upto_region 14 with (go_at_call 44; refine (HCL.out ()).mono ?_; rintro e w5 ⟨hn5, ao5, c5, rfl, hown5⟩; have k0 := cell_mv hn5 hx0 id; have f0 := free_blk (hn5.heap HCS.out id) (k * 4); have HST5 := hid (HST.out w5 hn5 ao5 c5 hown5); clear hn5 hown5)
              generalize w5.setCell ⟨g, k * 4, none⟩ (.slice ao5 x.arcs.length c5) = w7 at *
              clear HCL HST HCS HGB k0 f0 hx0 hgl
              go_wp2
              go_roundw
              case rel => exact ⟨k + 1, _, HKL.out, by go_num, HST5.out⟩
              case measure => have := HKL.out; simp [intOf]; omega
            case inr =>
              obtain rfl : k = l.length := by omega
              have he3 : ¬ (l.length : Int) < (l.length : Int) := by omega
              clear hkge hk
              have HX4 := hid (HXI.out.nu HGT.out.nu)
              obtain ⟨x0, x1, x2, x3⟩ := cells4 HX4.out.blk
              have HRV := hid (HGT.out.rowV hl60 (fun x hx => (HLA.out x hx).1))
              have HPV := hid (HX4.out.propsV hm3)
              have HOK : Hid (ProcOk l t.props t.init.length) := by
                exact ⟨hl1, hl60, by omega, hm3, fun x hx => (HLA.out x hx).1, fun x hx => (HLA.out x hx).2⟩
              have HTW := hid (tab_nu HT.out (mv0 HN1.out (mv0 HNV.out HGT.out.nu)))
              obtain ⟨i1, hi1, hz1, hz2, hz3⟩ := info_parts c_info_px
              have HI1 := hid (And.intro hi1 (And.intro hz1 (And.intro hz2 hz3)))
              have HBW : Hid (B ≤ V.heap.size ∧ B ≤ wk.heap.size) := by
                have h1 := HNV.out.size
                have h2 := HGT.out.nu.size
                have h3 := HBE.out
                exact ⟨by omega, by omega⟩
              clear hi1 hz1 hz2 hz3 he3
              go_upto_region 15 with fail
              rename_i KC15 hKC15
              refine wp_tail 14 (.pointer (some ⟨xb, 0, none⟩)) _ 56 (R15o xb qo pxs.length qc g c3 po t.props.length pc wk.heap.size l t.props) R15o.nu (by kernel_rfl) (by kernel_rfl) rfl rfl (by kernel_rfl) (by kernel_rfl) (by kernel_rfl) (fun _ _ _ h => h) (.inl ⟨by rfl, fun w => by rfl⟩) rfl ?hcl ?step15 ?tail15
              case hcl =>
                intro l' hcl h0 hy i hi
                have hy := hy _ rfl
                have h4 := hy ⟨4, .data⟩ (by simp) rfl
                have h13 := hy ⟨13, .data⟩ (by simp) rfl
                have h11 := hy ⟨11, .chain⟩ (by simp) rfl
                have h12 := hcl 13 _ rfl h13 ⟨12, .data⟩ (by simp) rfl
                have h5 := hcl 12 _ rfl h12 ⟨5, .data⟩ (by simp) rfl
                have h6 := hcl 11 _ rfl h11 ⟨6, .data⟩ (by simp) rfl
                have h10 := hcl 11 _ rfl h11 ⟨10, .data⟩ (by simp) rfl
                have h9 := hcl 10 _ rfl h10 ⟨9, .data⟩ (by simp) rfl
                have h8 := hcl 9 _ rfl h9 ⟨8, .data⟩ (by simp) rfl
                have h7 := hcl 8 _ rfl h8 ⟨7, .data⟩ (by simp) rfl
                have h3 := hcl 4 _ rfl h4 ⟨3, .data⟩ (by simp) rfl
                have h2 := hcl 3 _ rfl h3 ⟨2, .data⟩ (by simp) rfl
                have h1 := hcl 2 _ rfl h2 ⟨1, .data⟩ (by simp) rfl
                have : i = 0 ∨ i = 1 ∨ i = 2 ∨ i = 3 ∨ i = 4 ∨ i = 5 ∨ i = 6 ∨ i = 7 ∨ i = 8 ∨ i = 9 ∨ i = 10 ∨ i = 11 ∨ i = 12 ∨ i = 13 := by omega
                rcases this with rfl | rfl | rfl | rfl | rfl | rfl | rfl | rfl | rfl | rfl | rfl | rfl | rfl | rfl <;> assumption
              case step15 =>
                intro i o d a w' hi ho hd hn hfr had K hK
                have f3 := hfr 3 (by kernel_rfl)
                have f6 := hfr 6 (by kernel_rfl)
                have : i = 0 ∨ i = 1 ∨ i = 2 ∨ i = 3 ∨ i = 4 ∨ i = 5 ∨ i = 6 ∨ i = 7 ∨ i = 8 ∨ i = 9 ∨ i = 10 ∨ i = 11 ∨ i = 12 ∨ i = 13 := by omega
                rcases this with rfl | rfl | rfl | rfl | rfl | rfl | rfl | rfl | rfl | rfl | rfl | rfl | rfl | rfl <;> cases ho <;> cases hd
                · exact ite_yes (want_none rfl) (lk_move rfl rfl f3 (fun w' hm => hK w' _ hm rfl))
                · exact ite_yes (want_none rfl) (lk_move rfl rfl f3 (fun w' hm => hK w' _ hm rfl))
                · obtain ⟨⟨_, h0, rfl⟩, _⟩ := had; exact ite_yes (want_none rfl) (lk_nilP rfl rfl h0 (fun w' hm => hK w' _ hm rfl))
                · obtain ⟨⟨_, h0, rfl⟩, _⟩ := had; exact ite_yes (want_none rfl) (lk_fieldX3 rfl rfl h0 (fun w' hm => hK w' _ hm rfl))
                · obtain ⟨⟨_, h0, rfl⟩, _⟩ := had; exact ite_yes (want_none rfl) (lk_loadPr rfl rfl h0 (cell_mv hn x3 id) (fun w' hm => hK w' _ hm rfl))
                · exact ite_yes (want_none rfl) (lk_move rfl rfl f6 (fun w' hm => hK w' _ hm rfl))
                · exact ite_yes (want_none rfl) (lk_move rfl rfl f6 (fun w' hm => hK w' _ hm rfl))
                · exact ite_yes (want_none rfl) (lk_move rfl rfl f3 (fun w' hm => hK w' _ hm rfl))
                · obtain ⟨⟨_, h0, rfl⟩, _⟩ := had; exact ite_yes (want_none rfl) (lk_nilP rfl rfl h0 (fun w' hm => hK w' _ hm rfl))
                · obtain ⟨⟨_, h0, rfl⟩, _⟩ := had; exact ite_yes (want_none rfl) (lk_fieldXq2 rfl rfl h0 (fun w' hm => hK w' _ hm rfl))
                · obtain ⟨⟨_, h0, rfl⟩, _⟩ := had; exact ite_yes (want_none rfl) (lk_loadPs rfl rfl h0 (cell_mv hn x2 id) (fun w' hm => hK w' _ hm rfl))
                · obtain ⟨⟨_, h0, rfl⟩, ⟨_, h1, rfl⟩, _⟩ := had
                  refine ite_yes (want_none rfl) (lk_feetOf rfl rfl h0 h1 (feetOf_any w' wk.heap.size _ c3 l (HRV.out.mono (Nat.le_refl _) (fun b o x hb h => TNAt.below h hn.nu_below (Nat.le_refl _) hb)) po pc t.props (HPV.out.mono (Nat.le_refl _) (fun b o p hb (h : TRAt wk b o p) => (⟨cell_mv hn h.1 id, cell_mv hn h.2 id⟩ : TRAt w' b o p))) hn.size _ HOK.out (tab_nu HTW.out hn)) ?_)
                  rintro e w2 ⟨hn2, ga, gh, ge, rfl, AV, rows, Z, hfe, hg1, hg2, hg3, hgz⟩
                  exact ⟨_, rfl, hK w2 _ hn2 ⟨ga, gh, ge, AV, rows, rfl, Z, hfe, Nat.le_trans hn.size hg1, Nat.le_trans hn.size hg2, Nat.le_trans hn.size hg3, fun b hb => Nat.le_trans hn.size (hgz b hb)⟩⟩
                · obtain ⟨⟨_, h0, rfl⟩, ⟨_, h1, ga, gh, ge, AV, rows, rfl, hfe⟩, _⟩ := had
                  exact ite_yes (want_none rfl) (lk_buildP rfl rfl h0 h1 (fun w' hm => hK w' _ hm ⟨ga, gh, ge, AV, rows, rfl, hfe.nu hm⟩))
                · obtain ⟨⟨_, h0, ga, gh, ge, AV, rows, rfl, hfe⟩, _⟩ := had
                  have ha := Mv.alloc (fun _ => False) w' (.cells #[.slice (some ⟨g, 0, none⟩) l.length c3, .slice (some ⟨ga, 0, none⟩) l.length l.length, .slice (some ⟨gh, 0, none⟩) l.length l.length, .slice (some ⟨ge, 0, none⟩) l.length l.length] 120)
                  exact ite_yes (want_none rfl) (lk_rowP rfl rfl h0 (hK _ _ ha ⟨_, ga, gh, ge, AV, rows, rfl, heap_alloc_new _ _, hfe.nu ha⟩))
              case tail15 =>
                intro a w4 hn4 hdf hsz hfr htv
                obtain ⟨v11, t11, _⟩ := htv 11 _ 67 (by decide) rfl rfl
                obtain ⟨v12, t12, _⟩ := htv 12 _ 68 (by decide) rfl rfl
                obtain ⟨_, t13, rb, ga, gh, ge, AV, rows, rfl, hbr, Z5, hfe, hg1, hg2, hg3, hgz⟩ := htv 13 _ 69 (by decide) rfl rfl
                have htm := fill_eqT (y := 14) (vals := fun i => ([.pointer (some ⟨xb, 0, none⟩), .pointer (some ⟨xb, 0, none⟩), .pointer (some ⟨xb, 0, none⟩), .pointer (some ⟨xb, 3, none⟩), .slice qo pxs.length qc, .slice (some ⟨g, 0, none⟩) l.length c3, .slice (some ⟨g, 0, none⟩) l.length c3, .pointer (some ⟨xb, 0, none⟩), .pointer (some ⟨xb, 0, none⟩), .pointer (some ⟨xb, 2, none⟩), .slice po t.props.length pc, v11, v12, .slice (some ⟨rb, 0, none⟩) 1 1] : List Value).getD i undef) (by kernel_rfl) hfr (fun i o d hi ho hd => by
                  obtain ⟨v, h, hv⟩ := htv i o d hi ho hd
                  have : i = 0 ∨ i = 1 ∨ i = 2 ∨ i = 3 ∨ i = 4 ∨ i = 5 ∨ i = 6 ∨ i = 7 ∨ i = 8 ∨ i = 9 ∨ i = 10 ∨ i = 11 ∨ i = 12 ∨ i = 13 := by omega
                  rcases this with rfl | rfl | rfl | rfl | rfl | rfl | rfl | rfl | rfl | rfl | rfl | rfl | rfl | rfl <;> cases ho <;> cases hd <;> first | exact t11 | exact t12 | exact t13 | exact h.trans (congrArg some hv))
                rw [act_eq' htm hdf]
                have HN4 := hid hn4
                have HFE := hid hfe
                have HBR := hid hbr
                have HGG : Hid (wk.heap.size ≤ ga ∧ wk.heap.size ≤ gh ∧ wk.heap.size ≤ ge ∧ ∀ b, Z5 b → wk.heap.size ≤ b) := ⟨hg1, hg2, hg3, hgz⟩
                clear htm hdf hsz hfr htv t11 t12 t13 hn4 hfe hbr hg1 hg2 hg3 hgz x0 x1 x2 x3
                simp only [fill, List.take, List.getD_cons_succ, List.getD_cons_zero, List.setIfInBounds_toArray, List.set_cons_succ, List.set_cons_zero]
                show tailW _ _ [14, 15, 16, 17] _ _
                have HX5 := hid (HX4.out.nu HN4.out)
                have HPI : Hid (PIs w4 (fun b => V.heap.size ≤ b ∧ b < w4.heap.size) ⟨l, _, g, c3, ga, gh, ge, AV, rows, hereN l t.props, everN l t.props⟩) := HGT.out.pis HN4.out HFE.out HGG.out.1 HGG.out.2.1 HGG.out.2.2.1 HGG.out.2.2.2
                refine ⟨_, rfl, rfl, wp_append_lies _ (.tmp 60) (.tmp 69) 109 rfl B 120 i1 (.agg #[.slice none 0 0, .slice none 0 0, .slice none 0 0, .slice none 0 0]) 4 96 Tryd.underlying109 HI1.out.1 HI1.out.2.1 HI1.out.2.2.1 HI1.out.2.2.2 rfl (by decide) (.slice qo pxs.length qc) pxs.length (pxflat pxs) rfl HX5.out.procs ⟨rb, 0, none⟩ 1 1 [.slice (some ⟨g, 0, none⟩) l.length c3, .slice (some ⟨ga, 0, none⟩) l.length l.length, .slice (some ⟨gh, 0, none⟩) l.length l.length, .slice (some ⟨ge, 0, none⟩) l.length l.length] rfl rfl (fun q v hj => by rw [add_block, cell_blk HBR.out]; simpa using hj) (by simp [Value.oneCell']) (by decide) (by unfold maxLen; omega) (by omega) (Nat.le_trans HBW.out.2 HN4.out.size) _ rfl ?_⟩
                intro g5 cap5 w5 hown hgrow hat hg5
                show tailW _ _ _ (Act.put _ (some 70) _) _
                simp only [Act.put, List.setIfInBounds_toArray, List.set_cons_succ, List.set_cons_zero]
                refine ⟨_, rfl, rfl, lk_nilP rfl rfl rfl (fun u0 hu0 => ?_)⟩
                simp only [List.setIfInBounds_toArray, List.set_cons_succ, List.set_cons_zero]
                refine ⟨_, rfl, rfl, lk_fieldX3 rfl rfl rfl (fun u1 hu1 => ?_)⟩
                simp only [List.setIfInBounds_toArray, List.set_cons_succ, List.set_cons_zero]
                have hnu := mv0 hu0 hu1
                have hm5 : Mv (fun y => (Value.slice qo pxs.length qc).ownBlock = some y) w4 u1 := (Mv.grown hgrow).trans (hnu.mono (fun _ h => h.elim)) (fun _ h => .inl h)
                have hb5 := hm5.heap HX5.out.blk (fun e => row_off HX5.out.procs HX5.out.blk (by decide) _ e rfl)
                have HPU := hid (HXI.out.pushQ (mv0 HGT.out.nu HN4.out) hm5 (row_mv hnu hown (fun _ _ => id)) (hat.imp id (fun e => by omega)) HPI.out HBW.out.1)
                refine ⟨_, rfl, rfl, lk_storePr rfl rfl rfl rfl (cells4 hb5).2.2.2 (free_blk hb5 3) ?_⟩
                generalize u1.setCell ⟨xb, 0 + 3, none⟩ (.slice (some ⟨g5, 0, none⟩) (pxs.length + 1) cap5) = w7 at *
                obtain ⟨px, hpx⟩ : ∃ px : PX, (⟨l, txs, g, c3, ga, gh, ge, AV, rows, hereN l t.props, everN l t.props⟩ : PX) = px := ⟨_, rfl⟩
                have HSM7 : Hid (TSm t (pxs ++ [px])) := by
                  subst hpx
                  exact tsm_push HSM.out (fun j hj n hn => (HFE.out.st j hj).2.2 n hn) rfl rfl
                have HPL7 : Hid (px.l = l) := by show _ = _; rw [← hpx]
                rw [hpx] at HPU
                have HN7 : Hid (Nu w1 w7) := (mv0 HNV.out (mv0 HGT.out.nu HN4.out)).trans HPU.out.2 (fun y hy => .inr (by have := HBE.out; omega))
                have HX7 := hid HPU.out.1
                have HRL : Hid (rs.length = t.init.length + pxs.length ∧ fs.length = t.init.length + pxs.length) := by
                  have h1 := HRF.out.1
                  have h2 := HRF.out.2
                  have h3 := HLT.out
                  refine ⟨?_, ?_⟩
                  · rw [h1, List.length_append, List.length_replicate, List.length_map, List.length_take]; omega
                  · rw [h2, List.length_append, List.length_replicate]
                have hrl2 : rs.length ≤ 24 := by have := HRL.out; have := HLT.out; omega
                have hfl2 : fs.length ≤ 24 := by have := HRL.out; have := HLT.out; omega
                clear hpx HPU hm5 hb5 hnu hu0 hu1 hown hgrow hat hg5 HPI HX5 HBR HFE HX4 HRV HPV HTW HOK HN4 HGG
                show Exit.then _ _ .normal _ _
                refine hKC15 _ _ ?_
                clear hKC15
                obtain ⟨x0, x1, x2, x3⟩ := cells4 HX7.out.blk
                have hxl := lt_of_block HX7.out.blk
                have HA7 : Hid (Nu w7 (w7.alloc (.cells #[.int .i64 (l.length : Int)] 3))) := Mv.alloc _ _ _
                have HXA7 := hid (HX7.out.nu HA7.out)
                have HNB7 : Hid (∀ q v, ([.int .i64 (l.length : Int)] : List Value)[q]? = some v → (w7.alloc (.cells #[.int .i64 (l.length : Int)] 3)).cell? ((⟨w7.heap.size, 0, none⟩ : Addr).add q) = some v) := fun q v hj => by
                  rw [add_block, cell_blk (heap_alloc_new w7 _)]; simpa using hj
                have HBS7 : Hid (B ≤ w7.heap.size) := by have := HN7.out.size; have := HBE.out; show _ ≤ _; omega
                go_wp2_with (at_builtin; refine wpList_append_lies _ rfl _ _ 108 rfl B 3 i0 (.int .i64 0) 1 8 Tryd.underlying108 HI0.out.1 HI0.out.2.1 HI0.out.2.2.1 HI0.out.2.2.2 rfl (by decide) _ rs.length (rs.map (Value.int .i64)) rfl HXA7.out.row ⟨w7.heap.size, 0, none⟩ 1 1 [.int .i64 (l.length : Int)] rfl rfl HNB7.out (by simp [Value.oneCell']) (by decide) (by unfold maxLen; omega) (by omega) (by have := HBS7.out; simp; omega) _ rfl ?_)
                intro g9 cap9 u9 hown hgrow hat hg9
                have HPU := hid (HXA7.out.pushR (Mv.grown hgrow) hown (hat.imp id (fun e => by first | omega | (simp only [World.size_alloc] at e ⊢; omega))))
                have hb5 := (Mv.grown hgrow).heap HXA7.out.blk (fun e => row_off HXA7.out.row HXA7.out.blk (by decide) _ e rfl)
                have k0 := (cells4 hb5).1
                have f5 := free_blk hb5 0
                clear hown hgrow hat hg9 x0 x1 x2 x3 hb5 hxl
                go_upto_region 17 with fail
                generalize u9.setCell ⟨xb, 0, none⟩ (.slice (some ⟨g9, 0, none⟩) (rs.length + 1) cap9) = w9 at *
                have HN9 : Hid (Nu w1 w9) := (mv0 HN7.out HA7.out).trans HPU.out.2 (fun y hy => .inr (by have := HBE.out; omega))
                have HX9 := hid HPU.out.1
                clear HPU k0 f5 HA7 HXA7 HNB7 HX7
                obtain ⟨x0, x1, x2, x3⟩ := cells4 HX9.out.blk
                have hxl := lt_of_block HX9.out.blk
                have HA9 : Hid (Nu w9 (w9.alloc (.cells #[.int .i64 0] 3))) := Mv.alloc _ _ _
                have HXA9 := hid (HX9.out.nu HA9.out)
                have HNB9 : Hid (∀ q v, ([.int .i64 0] : List Value)[q]? = some v → (w9.alloc (.cells #[.int .i64 0] 3)).cell? ((⟨w9.heap.size, 0, none⟩ : Addr).add q) = some v) := fun q v hj => by
                  rw [add_block, cell_blk (heap_alloc_new w9 _)]; simpa using hj
                have HBS9 : Hid (B ≤ w9.heap.size) := by have := HN9.out.size; have := HBE.out; show _ ≤ _; omega
                go_wp2_with (at_builtin; refine wpList_append_lies _ rfl _ _ 22 rfl B 3 i0 (.int .i64 0) 1 8 Tryd.underlying22 HI0.out.1 HI0.out.2.1 HI0.out.2.2.1 HI0.out.2.2.2 rfl (by decide) _ fs.length (fs.map (Value.int .i64)) rfl HXA9.out.first ⟨w9.heap.size, 0, none⟩ 1 1 [.int .i64 0] rfl rfl HNB9.out (by simp [Value.oneCell']) (by decide) (by unfold maxLen; omega) (by omega) (by have := HBS9.out; simp; omega) _ rfl ?_)
                intro g11 cap11 u11 hown hgrow hat hg11
                have HPU := hid (HXA9.out.pushF (Mv.grown hgrow) hown (hat.imp id (fun e => by first | omega | (simp only [World.size_alloc] at e ⊢; omega))))
                have hb5 := (Mv.grown hgrow).heap HXA9.out.blk (fun e => row_off HXA9.out.first HXA9.out.blk (by decide) _ e rfl)
                have k0 := (cells4 hb5).2.1
                have f5 := free_blk hb5 1
                clear hown hgrow hat hg11 x0 x1 x2 x3 hb5 hxl
                go_upto_region 18 with fail
                generalize u11.setCell ⟨xb, 1, none⟩ (.slice (some ⟨g11, 0, none⟩) (fs.length + 1) cap11) = w11 at *
                have HN11 : Hid (Nu w1 w11) := (mv0 HN9.out HA9.out).trans HPU.out.2 (fun y hy => .inr (by have := HBE.out; omega))
                have HX11 := hid HPU.out.1
                clear HPU k0 f5 HA9 HXA9 HNB9 HX9
                have HLE : Hid ((pxs ++ [px]).length = pxs.length + 1) := by show _ = _; simp
                go_wp2
                go_roundw
                case rel =>
                  refine ⟨pxs ++ [px], _, _, _, _, _, _, _, _, _, by rw [HLE.out]; exact HLT.out, by rw [HLE.out]; go_num, ?_, ?_, HX11.out, HSM7.out, HN11.out⟩
                  · show _ = _
                    rw [HLE.out, List.map_append, HPE.out, List.take_add_one, HLL.out]
                    simp [HPL7.out]
                  · refine ⟨?_, ?_⟩
                    · rw [HRF.out.1, HLE.out, List.take_add_one, HLL.out]
                      simp
                    · rw [HRF.out.2, HLE.out, List.replicate_succ', List.append_assoc]
                case measure => have := HLT.out; simp [intOf]; omega

end Go.Proofs.YtiinmaedmkgfoaaDoor
/-
  The program's OfThreads: a system, or refused.
-/
set_option linter.unusedVariables false
set_option linter.unusedSimpArgs false
namespace Go.Proofs.YtiinmaedmkgfoaaDoor
open Go.RowKit

theorem TIs.more {W : World} {F F' : Nat → Prop} {tb : Nat} {t : Thr} {ro : Option Addr} {rc : Nat} {fo : Option Addr} {fc : Nat} {po : Option Addr} {pc : Nat} {qo : Option Addr} {qc : Nat} {pxs : List PX} (h : TIs W F tb t ro rc fo fc po pc qo qc pxs) (hF : ∀ b, F b → F' b) : TIs W F' tb t ro rc fo fc po pc qo qc pxs :=
  ⟨hF _ h.ft, h.blk, h.row.mv (Mv.refl (fun _ => False) W) (fun _ _ => id) hF, h.first.mv (Mv.refl (fun _ => False) W) (fun _ _ => id) hF, h.props.imp id fun ⟨g, h1, h2, h3⟩ => ⟨g, h1, hF _ h2, h3⟩, h.eq, h.procs.imp id fun ⟨g, h1, h2, h3⟩ => ⟨g, h1, hF _ h2, h3⟩, fun p hp => (h.pis p hp).more hF⟩

/-- Raw processes that were made when the heap was H long. -/
def TMade (H : Nat) (t : Thr) (tb : Nat) (w' : World) : Prop := ∃ ro rc fo fc po pc qo qc pxs, TSm t pxs ∧ TIs w' (fun b => b = 0 ∨ (H ≤ b ∧ b < w'.heap.size)) tb t ro rc fo fc po pc qo qc pxs

set_option maxHeartbeats 2000000 in
theorem OfThreads_any (w : World) (v0 v1 v2 : Value) (t : Thr) (h : ThrAt w w.heap.size v0 v1 v2 t) (hT : TabAt 0 Lib.deBruijn64tab w) : Calls Tryd.prog 6 #[.agg #[v0, v1, v2]] w fun e w' => Nu w w' ∧
    ((mayT t = false ∧ e = .returned (.tuple #[.nilIface, .int .i64 150])) ∨ (mayT t = true ∧ ∃ tb, e = .returned (.tuple #[.iface 66 (.pointer (some ⟨tb, 0, none⟩)), .int .i64 0]) ∧ TMade w.heap.size t tb w')) := by
  have HTH := hid h
  have HT := hid hT
  clear h hT
  go_enter Tryd.func6, Tryd.ntmps6
  go_upto_region 1 with fail
  have HN1 : Hid (Nu w (w.alloc (.cells #[v0, v1, v2] 26))) := Mv.alloc _ _ _
  have HB1 := hid (heap_alloc_new w (.cells #[v0, v1, v2] 26))
  generalize w.alloc (.cells #[v0, v1, v2] 26) = w1 at *
  obtain ⟨c0, c1, c2⟩ := cells3 HB1.out
  obtain ⟨b, hb⟩ : ∃ b, mayT t = b := ⟨_, rfl⟩
  have hmb := threadsMayBe_any w1 v0 v1 v2 t (HTH.out.nu HN1.out)
  rw [hb] at hmb
  have HM := hid hb
  have HMB := hid (fun (_ : Unit) => hmb)
  clear hb hmb
  go_wp2_with fail
  refine (HMB.out ()).mono ?_
  rintro e w2 ⟨rfl, hn2⟩
  have HN2 := hid (mv0 HN1.out hn2)
  replace c0 := cell_mv hn2 c0 id
  replace c1 := cell_mv hn2 c1 id
  replace c2 := cell_mv hn2 c2 id
  clear hn2
  cases b with
  | false =>
    go_wp2
    go_ret2
    exact ⟨HN2.out, .inl ⟨HM.out, rfl⟩⟩
  | true =>
    go_wp2_with (go_at_call 20; refine (threadsOf_any w2 v0 v1 v2 t (HTH.out.nu HN2.out) HM.out (tab_nu HT.out HN2.out)).mono ?_; rintro e w3 ⟨hn3, tb, ro, rc, fo, fc, po, pc, qo, qc, pxs, rfl, hs, hi⟩; have HN3 := hid hn3; have HSI := hid (And.intro hs hi); clear hn3 hs hi)
    go_ret2
    refine ⟨mv0 HN2.out HN3.out, .inr ⟨HM.out, tb, rfl, ro, rc, fo, fc, po, pc, qo, qc, pxs, HSI.out.1, ?_⟩⟩
    have h1 := HN2.out.size
    exact HSI.out.2.more (fun b hb => hb.imp (fun h => h) (fun h => ⟨Nat.le_trans h1 h.1, h.2⟩))

theorem TMade.sys {H : Nat} {t : Thr} {tb : Nat} {w w' : World} (h : TMade H t tb w') (hm : mayT t = true) (hT : TabAt 0 Lib.deBruijn64tab w) (hn : Nu w w') : SysAt (fun b => b = 0 ∨ (H ≤ b ∧ b < w'.heap.size)) w' 66 (.pointer (some ⟨tb, 0, none⟩)) (threadSem t) := by
  obtain ⟨ro, rc, fo, fc, po, pc, qo, qc, pxs, hs, hi⟩ := h
  have h0 : 0 < w.heap.size := World.block_lt_of_cell? w _ (hT 0 (by decide))
  refine hi.sys hs (tab_nu hT hn) (.inl rfl) hm (fun b hb => ?_)
  rcases hb with rfl | hb
  · exact Nat.lt_of_lt_of_le h0 hn.size
  · exact hb.2

end Go.Proofs.YtiinmaedmkgfoaaDoor
/-
  What a process does here, and ever: the program's node, Here, Ever.
-/
set_option linter.unusedVariables false
set_option linter.unusedSimpArgs false
namespace Go.Proofs.YtiinmaedmkgfoaaDoor
open Go.RowKit

set_option maxHeartbeats 2000000 in
set_option maxRecDepth 20000 in
theorem tnode_any (w : World) (F : Nat → Prop) (tb : Nat) (t : Thr) {ro : Option Addr} {rc : Nat} {fo : Option Addr} {fc : Nat} {po : Option Addr} {pc : Nat} {qo : Option Addr} {qc : Nat} {pxs : List PX} (h : TIs w F tb t ro rc fo fc po pc qo qc pxs) (hm : mayT t = true) (hF : ∀ b, F b → b < w.heap.size) (st : ByteArray) (hst : Short st) (L : List Nat) (hL : nums st 0 (boundsN t) = some L) (p : Nat) (hp : p < t.procs.length) :
    Calls Tryd.prog 94 #[.pointer (some ⟨tb, 0, none⟩), .string st, .int .i64 (p : Int)] w fun e w' => e = .returned (.tuple #[.int .i64 (L.getD (t.init.length + p) 0 : Int), .bool true]) ∧ Nu w w' := by
  obtain ⟨h1, h2, _⟩ := mayT_parts hm
  have HTI := hid h
  have HM := hid hm
  have HF := hid hF
  have c0 := cell_blk h.blk 0
  have c3 := cell_blk h.blk 3
  simp only [List.size_toArray, List.length_cons, List.length_nil, Nat.reduceAdd, Nat.lt_add_one, Nat.reduceLT, getElem?_pos, List.getElem_toArray, List.getElem_cons_zero, List.getElem_cons_succ, Nat.zero_lt_succ] at c0 c3
  have hc := numbers_any w w.heap.size ro rc (boundsN t) (h.row.at hF) (fun m hm' => Nat.le_trans (bounds_le hm m hm') (by decide)) (by rw [boundsN_len]; omega) st hst
  rw [boundsN_len] at hc
  have HC := hid (fun (_ : Unit) => hc)
  have HLN := hid (nums_small hm hL)
  have HNS := hid hL
  have HP := hid hp
  have hp' : (p : Int) < (t.procs.length : Int) := by omega
  have HB := hid (fun (W : World) => below_any (p : Int) (t.procs.length : Int) W)
  clear hc h hm hF hL hst
  go_enter Tryd.func94, Tryd.ntmps94
  go_wp2_with fail
  refine (HC.out ()).mono ?_
  rintro e w2 ⟨hn2, hcase⟩
  rcases hcase with ⟨hno, rfl⟩ | ⟨L', ao, ac, hno, rfl, hown⟩
  · rw [HNS.out] at hno; cases hno
  rw [HNS.out] at hno
  cases hno
  have HN2 := hid hn2
  have HOW := hid hown
  replace c3 := cell_mv hn2 c3 id
  have hll : (L.length : Int) ≤ 24 := by have := HLN.out.1; omega
  clear hn2 hown c0 HC hp
  go_wp2_with fail
  refine (HB.out w2).mono ?_
  rintro e w3 ⟨rfl, rfl⟩
  have hbt : (decide ((0 : Int) ≤ (p : Int)) && decide ((p : Int) < (t.procs.length : Int))) = true := by rw [decide_eq_true hp', Bool.and_true]; exact decide_eq_true (Int.natCast_nonneg p)
  simp only [hbt]
  have hql : t.init.length + p < L.length := by have := HLN.out.1; have := HP.out; omega
  obtain ⟨lb, rfl, cl⟩ : ∃ lb, ao = some ⟨lb, 0, none⟩ ∧ w3.cell? ⟨lb, t.init.length + p, none⟩ = some (.int .i64 ((L.getD (t.init.length + p) 0 : Nat) : Int)) := by
    rcases HOW.out.row with h0 | ⟨g, cs, h1, h2, h3, h4, h5⟩
    · have := HOW.out.len; rw [ints_length] at this; omega
    · refine ⟨g, h1, ?_⟩
      rw [cell_blk h3, h5 _ (by rwa [ints_length]), List.getD_eq_getElem?_getD, List.getElem?_eq_getElem hql]
      simp [ints]
  have hqi : ((t.init.length + p : Nat) : Int) < (L.length : Int) := by omega
  have HT3 : Hid (TIs w3 F tb t ro rc fo fc po pc qo qc pxs) := HTI.out.keep (HN2.out.keep (fun b hb => ⟨HF.out b hb, id⟩))
  clear hbt c3 hp' HOW hql
  go_wp2_with (go_at_call 97; refine (place_any w3 F tb t HT3.out HM.out p HP.out).mono ?_; rintro e w4 ⟨rfl, hn4⟩; have HN4 := hid hn4; replace cl := cell_mv hn4 cl id; clear hn4)
  go_ret2
  exact ⟨rfl, mv0 HN2.out HN4.out⟩

/-- What a process of the program's does here, and ever, as it lies. -/
theorem TIs.feet {w : World} {F : Nat → Prop} {tb : Nat} {t : Thr} {ro : Option Addr} {rc : Nat} {fo : Option Addr} {fc : Nat} {po : Option Addr} {pc : Nat} {qo : Option Addr} {qc : Nat} {pxs : List PX} (h : TIs w F tb t ro rc fo fc po pc qo qc pxs) (hsm : TSm t pxs) {p : Nat} (hp : p < t.procs.length) {i : Nat} (hi : i < (t.procs.getD p []).length) :
    ∃ qg gh ge, qo = some ⟨qg, 0, none⟩ ∧ w.cell? ⟨qg, p * 4 + 2, none⟩ = some (.slice (some ⟨gh, 0, none⟩) (t.procs.getD p []).length (t.procs.getD p []).length) ∧ w.cell? ⟨qg, p * 4 + 3, none⟩ = some (.slice (some ⟨ge, 0, none⟩) (t.procs.getD p []).length (t.procs.getD p []).length) ∧ FtAt w gh (i * 3) (hereT t p i) ∧ FtAt w ge (i * 3) (everT t p i) := by
  rcases h.procs with h0 | ⟨qg, rfl, hFq, hpx⟩
  · omega
  have hpl : pxs.length = t.procs.length := by rw [← h.eq, List.length_map]
  have hpp : p < pxs.length := by omega
  have hx := hpx p hpp
  have hpi := h.pis _ (List.getElem_mem hpp)
  obtain ⟨_, hh, he⟩ := hsm _ (List.getElem_mem hpp)
  have hl : t.procs.getD p [] = (pxs[p]).l := by
    rw [List.getD_eq_getElem?_getD, ← h.eq, List.getElem?_map, List.getElem?_eq_getElem hpp]
    rfl
  rw [hl] at hi ⊢
  refine ⟨qg, (pxs[p]).gh, (pxs[p]).ge, rfl, hx.c2, hx.c3, ?_, ?_⟩
  · have hs := hpi.hs
    have hil : i < (pxs[p]).Hs.length := by rw [hpi.hl]; exact hi
    have := row_ft hs hil
    have e : (pxs[p]).Hs[i] = hereT t p i := by
      rw [hereT, hl, ← hh, List.getD_eq_getElem?_getD, List.getElem?_eq_getElem hil]
      rfl
    rwa [e] at this
  · have hs := hpi.es
    have hil : i < (pxs[p]).Es.length := by rw [hpi.el]; exact hi
    have := row_ft hs hil
    have e : (pxs[p]).Es[i] = everT t p i := by
      rw [everT, hl, ← he, List.getD_eq_getElem?_getD, List.getElem?_eq_getElem hil]
      rfl
    rwa [e] at this

theorem here_small {t : Thr} (hm : mayT t = true) {p : Nat} (hp : p < t.procs.length) (i : Nat) : (hereT t p i).Small := by
  obtain ⟨hi16, hp8, hp60, _, hpr, _⟩ := mayT_parts hm
  have hl : t.procs.getD p [] ∈ t.procs := by rw [List.getD_eq_getElem?_getD, List.getElem?_eq_getElem hp]; exact List.getElem_mem hp
  obtain ⟨_, hl60, hxa⟩ := procB_parts (hpr _ hl)
  rw [hereT]
  cases hg : (t.procs.getD p [])[i]? with
  | none =>
    rw [hereN, List.getD_eq_getElem?_getD, List.getElem?_map, hg]
    exact small0
  | some x =>
    rw [here_get hg]
    refine joinAll_small (fun f hf => ?_)
    obtain ⟨a, ha, rfl⟩ := List.mem_map.1 hf
    exact foot_small hp60 _ _ (by omega) ((hxa x (List.mem_of_getElem? hg)).2 a ha)
theorem ever_small {t : Thr} (hm : mayT t = true) {p : Nat} (hp : p < t.procs.length) {i : Nat} (hi : i < (t.procs.getD p []).length) : (everT t p i).Small := by
  rw [everT, ever_get hi]
  refine joinAll_small (fun f hf => ?_)
  obtain ⟨n, hn, rfl⟩ := List.mem_map.1 hf
  exact here_small hm hp n

set_option maxHeartbeats 4000000 in
set_option maxRecDepth 20000 in
theorem tEver_any (w : World) (F : Nat → Prop) (tb : Nat) (t : Thr) {ro : Option Addr} {rc : Nat} {fo : Option Addr} {fc : Nat} {po : Option Addr} {pc : Nat} {qo : Option Addr} {qc : Nat} {pxs : List PX} (h : TIs w F tb t ro rc fo fc po pc qo qc pxs) (hsm : TSm t pxs) (hm : mayT t = true) (hF : ∀ b, F b → b < w.heap.size) (hT : TabAt 0 Lib.deBruijn64tab w) (st : ByteArray) (hst : Short st) (L : List Nat) (hL : nums st 0 (boundsN t) = some L) (p : Nat) (hp : p < t.procs.length) (hi : L.getD (t.init.length + p) 0 < (t.procs.getD p []).length) :
    Calls Tryd.prog 88 #[.pointer (some ⟨tb, 0, none⟩), .string st, .int .i64 (p : Int)] w (TOut w (everT t p (L.getD (t.init.length + p) 0))) := by
  have hl60 : (t.procs.getD p []).length ≤ 60 := by
    obtain ⟨_, _, _, _, hpr, _⟩ := mayT_parts hm
    exact (procB_parts (hpr _ (by rw [List.getD_eq_getElem?_getD, List.getElem?_eq_getElem hp]; exact List.getElem_mem hp))).2.1
  have hp8 := (mayT_parts hm).2.1
  have HTI := hid h
  have HM := hid hm
  have HF := hid hF
  have HT := hid hT
  have HI := hid hi
  have HP := hid hp
  have HNO := hid (fun (W : World) (hn : Nu w W) => tnode_any W F tb t (HTI.out.keep (hn.keep (fun b hb => ⟨HF.out b hb, id⟩))) HM.out (fun b hb => Nat.lt_of_lt_of_le (HF.out b hb) hn.size) st hst L hL p hp)
  obtain ⟨qg, gh, ge, rfl, q2, q3, hfh, hfe⟩ := h.feet hsm hp hi
  have HFH := hid hfh
  have HSML : Hid (everT t p (L.getD (t.init.length + p) 0)).Small := ever_small hm hp hi
  have HFE := hid hfe
  have c3 := cell_blk h.blk 3
  simp only [List.size_toArray, List.length_cons, List.length_nil, Nat.reduceAdd, Nat.lt_add_one, Nat.reduceLT, getElem?_pos, List.getElem_toArray, List.getElem_cons_zero, List.getElem_cons_succ, Nat.zero_lt_succ] at c3
  have bp : (p : Int) < (t.procs.length : Int) := by omega
  generalize (t.procs.getD p []).length = ln at *
  generalize L.getD (t.init.length + p) 0 = nd at *
  have bi : (nd : Int) < (ln : Int) := by omega
  clear h hsm hm hF hT hst hL hi hfh hfe hp
  have HN1 : Hid (Nu w (w.alloc (.cells #[.slice none 0 0, .slice none 0 0, .int .u64 0] 58))) := Mv.alloc _ _ _
  have HA1 := hid (heap_alloc_new w (.cells #[.slice none 0 0, .slice none 0 0, .int .u64 0] 58))
  go_enter Tryd.func88, Tryd.ntmps88
  go_upto_region 1 with fail
  generalize w.alloc (.cells #[.slice none 0 0, .slice none 0 0, .int .u64 0] 58) = w1 at *
  go_wp2_with fail
  refine (HNO.out w1 HN1.out).mono ?_
  rintro e w2 ⟨rfl, hn2⟩
  have HN2 := hid (mv0 HN1.out hn2)
  have HK2 := hid hn2
  replace c3 := cell_mv HN2.out c3 id
  replace q2 := cell_mv HN2.out q2 id
  replace q3 := cell_mv HN2.out q3 id
  clear hn2 HNO
  go_wp2_with fail
  refine (told_any w2 ge (nd * 3) (everT t p nd) (HFE.out.mv HN2.out id) HSML.out (tab_nu HT.out HN2.out)).mono ?_
  rintro e w3 ⟨hn3, ra, rcp, wa, wc, rfl, hor, how⟩
  have HN3 := hid (mv0 HN2.out hn3)
  have HOR := hid hor
  have HOW := hid how
  have HS3 := hid hn3.size
  have HA3 := hid (hn3.heap (HK2.out.heap HA1.out id) id)
  have HW2 : Hid (w.heap.size < w2.heap.size) := by have h1 := lt_of_block HA1.out; have h2 := HK2.out.size; show _ < _; omega
  obtain ⟨y0, y1, y2⟩ := cells3J HA3.out
  obtain ⟨u0, u1, u2⟩ := frees3J HA3.out
  clear hn3 hor how c3 q2 q3 bp bi
  go_wp2
  have hs3 := set3 (v0 := .slice ra (bitsOf (everT t p nd).r).length rcp) (v1 := .slice wa (bitsOf (everT t p nd).w).length wc) (v2 := .int .u64 ((everT t p nd).t : Int)) HA3.out
  refine bodyPost_ret (results_cell_row rfl _ _ w.heap.size 58 _ (0, 0) _ rfl hs3.1 Tryd.underlying58 rfl (by kernel_rfl)) rfl ?_
  have hne : ∀ {ao : Option Addr} {cp : Nat} {ys : List Int}, OwnI w3 w2.heap.size ao cp ys → ∀ a, 0 < cp → ao = some a → ¬ a.block = w.heap.size := fun {ao cp ys} hy a hp ha e => by
    have h1 := HW2.out
    rcases hy.row with h0 | ⟨g, cs, hg, hh, _⟩
    · omega
    · rw [hg] at ha; cases ha; simp only at e; omega
  exact ⟨HN3.out.trans hs3.2 (fun x hx => .inr (by have : x = w.heap.size := hx; omega)), ra, rcp, wa, wc, rfl, HOR.out.mv hs3.2 (hne HOR.out) (Nat.le_of_lt HW2.out), HOW.out.mv hs3.2 (hne HOW.out) (Nat.le_of_lt HW2.out)⟩

set_option maxHeartbeats 4000000 in
set_option maxRecDepth 20000 in
theorem tHere_any (w : World) (F : Nat → Prop) (tb : Nat) (t : Thr) {ro : Option Addr} {rc : Nat} {fo : Option Addr} {fc : Nat} {po : Option Addr} {pc : Nat} {qo : Option Addr} {qc : Nat} {pxs : List PX} (h : TIs w F tb t ro rc fo fc po pc qo qc pxs) (hsm : TSm t pxs) (hm : mayT t = true) (hF : ∀ b, F b → b < w.heap.size) (hT : TabAt 0 Lib.deBruijn64tab w) (st : ByteArray) (hst : Short st) (L : List Nat) (hL : nums st 0 (boundsN t) = some L) (p : Nat) (hp : p < t.procs.length) (hi : L.getD (t.init.length + p) 0 < (t.procs.getD p []).length) :
    Calls Tryd.prog 89 #[.pointer (some ⟨tb, 0, none⟩), .string st, .int .i64 (p : Int)] w (TOut w (hereT t p (L.getD (t.init.length + p) 0))) := by
  have hl60 : (t.procs.getD p []).length ≤ 60 := by
    obtain ⟨_, _, _, _, hpr, _⟩ := mayT_parts hm
    exact (procB_parts (hpr _ (by rw [List.getD_eq_getElem?_getD, List.getElem?_eq_getElem hp]; exact List.getElem_mem hp))).2.1
  have hp8 := (mayT_parts hm).2.1
  have HTI := hid h
  have HM := hid hm
  have HF := hid hF
  have HT := hid hT
  have HI := hid hi
  have HP := hid hp
  have HNO := hid (fun (W : World) (hn : Nu w W) => tnode_any W F tb t (HTI.out.keep (hn.keep (fun b hb => ⟨HF.out b hb, id⟩))) HM.out (fun b hb => Nat.lt_of_lt_of_le (HF.out b hb) hn.size) st hst L hL p hp)
  obtain ⟨qg, gh, ge, rfl, q2, q3, hfh, hfe⟩ := h.feet hsm hp hi
  have HFH := hid hfh
  have HSML : Hid (hereT t p (L.getD (t.init.length + p) 0)).Small := here_small hm hp _
  have HFE := hid hfe
  have c3 := cell_blk h.blk 3
  simp only [List.size_toArray, List.length_cons, List.length_nil, Nat.reduceAdd, Nat.lt_add_one, Nat.reduceLT, getElem?_pos, List.getElem_toArray, List.getElem_cons_zero, List.getElem_cons_succ, Nat.zero_lt_succ] at c3
  have bp : (p : Int) < (t.procs.length : Int) := by omega
  generalize (t.procs.getD p []).length = ln at *
  generalize L.getD (t.init.length + p) 0 = nd at *
  have bi : (nd : Int) < (ln : Int) := by omega
  clear h hsm hm hF hT hst hL hi hfh hfe hp
  have HN1 : Hid (Nu w (w.alloc (.cells #[.slice none 0 0, .slice none 0 0, .int .u64 0] 58))) := Mv.alloc _ _ _
  have HA1 := hid (heap_alloc_new w (.cells #[.slice none 0 0, .slice none 0 0, .int .u64 0] 58))
  go_enter Tryd.func89, Tryd.ntmps89
  go_upto_region 1 with fail
  generalize w.alloc (.cells #[.slice none 0 0, .slice none 0 0, .int .u64 0] 58) = w1 at *
  go_wp2_with fail
  refine (HNO.out w1 HN1.out).mono ?_
  rintro e w2 ⟨rfl, hn2⟩
  have HN2 := hid (mv0 HN1.out hn2)
  have HK2 := hid hn2
  replace c3 := cell_mv HN2.out c3 id
  replace q2 := cell_mv HN2.out q2 id
  replace q3 := cell_mv HN2.out q3 id
  clear hn2 HNO
  go_wp2_with fail
  refine (told_any w2 gh (nd * 3) (hereT t p nd) (HFH.out.mv HN2.out id) HSML.out (tab_nu HT.out HN2.out)).mono ?_
  rintro e w3 ⟨hn3, ra, rcp, wa, wc, rfl, hor, how⟩
  have HN3 := hid (mv0 HN2.out hn3)
  have HOR := hid hor
  have HOW := hid how
  have HS3 := hid hn3.size
  have HA3 := hid (hn3.heap (HK2.out.heap HA1.out id) id)
  have HW2 : Hid (w.heap.size < w2.heap.size) := by have h1 := lt_of_block HA1.out; have h2 := HK2.out.size; show _ < _; omega
  obtain ⟨y0, y1, y2⟩ := cells3J HA3.out
  obtain ⟨u0, u1, u2⟩ := frees3J HA3.out
  clear hn3 hor how c3 q2 q3 bp bi
  go_wp2
  have hs3 := set3 (v0 := .slice ra (bitsOf (hereT t p nd).r).length rcp) (v1 := .slice wa (bitsOf (hereT t p nd).w).length wc) (v2 := .int .u64 ((hereT t p nd).t : Int)) HA3.out
  refine bodyPost_ret (results_cell_row rfl _ _ w.heap.size 58 _ (0, 0) _ rfl hs3.1 Tryd.underlying58 rfl (by kernel_rfl)) rfl ?_
  have hne : ∀ {ao : Option Addr} {cp : Nat} {ys : List Int}, OwnI w3 w2.heap.size ao cp ys → ∀ a, 0 < cp → ao = some a → ¬ a.block = w.heap.size := fun {ao cp ys} hy a hp ha e => by
    have h1 := HW2.out
    rcases hy.row with h0 | ⟨g, cs, hg, hh, _⟩
    · omega
    · rw [hg] at ha; cases ha; simp only at e; omega
  exact ⟨HN3.out.trans hs3.2 (fun x hx => .inr (by have : x = w.heap.size := hx; omega)), ra, rcp, wa, wc, rfl, HOR.out.mv hs3.2 (hne HOR.out) (Nat.le_of_lt HW2.out), HOW.out.mv hs3.2 (hne HOW.out) (Nat.le_of_lt HW2.out)⟩

end Go.Proofs.YtiinmaedmkgfoaaDoor
