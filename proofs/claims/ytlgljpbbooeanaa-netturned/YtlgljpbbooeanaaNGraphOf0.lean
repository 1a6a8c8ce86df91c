/-
  A graph that is being copied: what lies where. Laws on worlds, and the operations of 'arcs[k].Reads, arcs[k].Writes = slices.Clone(..), slices.Clone(..)'.
-/
import Derived.Test.YtlgljpbbooeanaaNGrRep
import Derived.Test.YtlgljpbbooeanaaNRegJ
set_option linter.unusedVariables false
set_option linter.unusedSimpArgs false
namespace Go.Proofs.Ytlgljpbbooeanaa
open Go.RowKit

/-- Blocks that are settled: rows of numbers and of arcs, from H on. -/
def Zt (H : Nat) (W : World) (b : Nat) : Prop := H ≤ b ∧ ∃ cs t, W.heap[b]? = some (.cells cs t (0, 0)) ∧ (t = 3 ∨ t = 55)
def ZI (H : Nat) (W : World) (b : Nat) : Prop := H ≤ b ∧ ∃ cs, W.heap[b]? = some (.cells cs 3 (0, 0))

structure GO (w1 wr : World) (g nc : Nat) (ns : List Node) (i : Nat) (nxs : List NX) : Prop where
  eq : nxs.map NX.nd = ns
  row : wr.ownsRow w1.heap.size 53 5 (.slice (some ⟨g, 0, none⟩) ns.length nc) ns.length (nxflat nxs)
  ax : ∀ x ∈ nxs, x.xs.map AX.a = x.nd.arcs
  old : ∀ j (hj : j < nxs.length), i ≤ j → ArcsO wr w1.heap.size nxs[j].vo nxs[j].xs
  new : ∀ j (hj : j < nxs.length), j < i → ArcsZ wr (Zt w1.heap.size wr) nxs[j].vo nxs[j].xs
  nu : Nu w1 wr

structure GCp (wr w3 wk : World) (ao3 : Option Addr) (c3 : Nat) (xs0 axs : List AX) (k : Nat) : Prop where
  len : axs.length = xs0.length
  eq : axs.map AX.a = xs0.map AX.a
  row : wk.ownsRow wr.heap.size 55 6 (.slice ao3 xs0.length c3) xs0.length (axflat axs)
  old : ∀ j (hj : j < axs.length) (hj' : j < xs0.length), k ≤ j → axs[j] = xs0[j]
  new : ∀ j (hj : j < axs.length), j < k → AXZ wk (ZI wr.heap.size wk) axs[j]
  mv : Mv (fun b => (Value.slice ao3 xs0.length c3).ownBlock = some b) w3 wk

theorem GO.step {w1 wr w3 wk : World} {g nc : Nat} {ns : List Node} {i : Nat} {nxs : List NX} {ao3 : Option Addr} {c3 : Nat} {axs : List AX} (h : GO w1 wr g nc ns i nxs) (hi : i < nxs.length) (h3 : Nu wr w3) (hm : Mv (fun b => (Value.slice ao3 axs.length c3).ownBlock = some b) w3 wk)
    (hrow : wk.ownsRow wr.heap.size 55 6 (.slice ao3 axs.length c3) axs.length (axflat axs)) (heq : axs.map AX.a = nxs[i].xs.map AX.a) (hz : ∀ x ∈ axs, AXZ wk (ZI wr.heap.size wk) x) :
    GO w1 (wk.setCell ⟨g, i * 5, none⟩ (.slice ao3 axs.length c3)) g nc ns (i + 1) (nxs.set i ⟨nxs[i].nd, axs, ao3, c3⟩) := by
  have hl : nxs.length = ns.length := by rw [← h.eq, List.length_map]
  have hgb := row_blk h.row (k := g) rfl
  have hm3 := Mv.setCell wk ⟨g, i * 5, none⟩ (.slice ao3 axs.length c3)
  have hmk : Nu wr wk := h3.trans hm (fun x hx => .inr ((row_blk hrow hx).1))
  have hm' : Mv (· = g) wr (wk.setCell ⟨g, i * 5, none⟩ (.slice ao3 axs.length c3)) := (hmk.mono (fun _ h => h.elim)).trans hm3 (fun x hx => .inl hx)
  have hsz := h.nu.size
  have hrowk : wk.ownsRow w1.heap.size 53 5 (.slice (some ⟨g, 0, none⟩) ns.length nc) ns.length (nxflat nxs) := row_mv hmk h.row (fun _ _ => id)
  have hzt : ∀ b, Zt w1.heap.size wr b → ¬ b = g := fun b ⟨_, cs, t, hc, ht⟩ e => by
    obtain ⟨_, _, cs', hc'⟩ := hgb
    rw [e, hc'] at hc
    simp only [Option.some.injEq, Obj.cells.injEq] at hc
    rcases ht with ht | ht <;> (rw [← hc.2.1] at ht; exact absurd ht (by decide))
  have hzt' : ∀ b, Zt w1.heap.size wr b → Zt w1.heap.size (wk.setCell ⟨g, i * 5, none⟩ (.slice ao3 axs.length c3)) b := fun b hb => by
    obtain ⟨h1, cs, t, hc, ht⟩ := hb
    exact ⟨h1, cs, t, hm'.heap hc (hzt b ⟨h1, cs, t, hc, ht⟩), ht⟩
  have hgr : ∀ b, wr.heap.size ≤ b → ¬ b = g := fun b hb e => by omega
  have hnlen : (nxs.set i ⟨nxs[i].nd, axs, ao3, c3⟩).length = nxs.length := List.length_set
  refine ⟨?_, ?_, fun x hx => ?_, fun j hj hij => ?_, fun j hj hij => ?_, ?_⟩
  · rw [List.map_set]
    show (nxs.map NX.nd).set i nxs[i].nd = ns
    rw [← List.getElem_map NX.nd (h := by simpa using hi), List.set_getElem_self, h.eq]
  · have hj : i * 5 < (nxflat nxs).length := by rw [nxflat_length]; omega
    have := row_set hrowk (g := g) rfl hj (.slice ao3 axs.length c3)
    rw [← Nat.add_zero (i * 5), nxflat_set (x' := ⟨nxs[i].nd, axs, ao3, c3⟩) hi (by omega) rfl] at this
    exact this
  · rcases List.mem_or_eq_of_mem_set hx with hx | rfl
    · exact h.ax x hx
    · exact heq.trans (h.ax _ (List.getElem_mem hi))
  · have hj' : j < nxs.length := by rwa [hnlen] at hj
    have hne : i ≠ j := by omega
    have := h.old j hj' (by omega)
    rw [List.getElem_set_ne hne]
    exact this.below (hm'.below hsz (fun x hx => by omega)) (Nat.le_refl _)
  · have hj' : j < nxs.length := by rwa [hnlen] at hj
    by_cases hji : j = i
    · subst hji
      rw [List.getElem_set_self]
      refine (ArcsZ.of_row hrow (by
        have h1 := (h.old j hj' (Nat.le_refl _)).lim
        have h2 := congrArg List.length heq
        simp only [List.length_map] at h2
        rw [h2]
        exact h1) (Z := fun b => Zt w1.heap.size wk b ∧ ¬ b = g) (fun b hb => ?_) (fun x hx => ?_)).mv hm3 (fun b hb e => hb.2 e) (fun b hb => ?_)
      · obtain ⟨h1, _, cs, hc⟩ := row_blk hrow hb
        exact ⟨⟨by omega, cs, _, hc, .inr rfl⟩, hgr b h1⟩
      · exact (hz x hx).mv (Mv.refl (fun _ => False) _) (fun _ _ => id) (fun b ⟨h1, cs, hc⟩ => ⟨⟨by omega, cs, _, hc, .inl rfl⟩, hgr b h1⟩)
      · obtain ⟨⟨h1, cs, t, hc, ht⟩, hne⟩ := hb
        exact ⟨h1, cs, t, hm3.heap hc hne, ht⟩
    · have hne : i ≠ j := fun e => hji e.symm
      rw [List.getElem_set_ne hne]
      exact (h.new j hj' (by omega)).mv hm' hzt hzt'
  · exact h.nu.trans hm' (fun x hx => .inr (by have := hgb.1; omega))

/-- A copy of numbers, apart from the row that is written into. -/
def Fr (w : World) (H g3 : Nat) (ao : Option Addr) (cap : Nat) (xs : List Int) : Prop := OwnI w H ao cap xs ∧ ∀ a, 0 < cap → ao = some a → a.block ≠ g3
theorem Fr.mv {w w' : World} {H g3 : Nat} {ao : Option Addr} {cap : Nat} {xs : List Int} (h : Fr w H g3 ao cap xs) (hm : Mv (· = g3) w w') : Fr w' H g3 ao cap xs := ⟨h.1.mv hm (fun a hp ha => h.2 a hp ha) (Nat.le_refl _), h.2⟩

def R9 (g3 n3 c3 k : Nat) (x : AX) (H : Nat) : Nat → World → Value → Prop
  | 0, _, v => v = .slice (some ⟨g3, 0, none⟩) n3 c3
  | 1, _, v => v = .int .i64 (k : Int)
  | 2, _, v => v = .slice (some ⟨g3, 0, none⟩) n3 c3
  | 3, _, v => v = .int .i64 (k : Int)
  | 4, _, v => v = .slice (some ⟨g3, 0, none⟩) n3 c3
  | 5, _, v => v = .int .i64 (k : Int)
  | 6, _, v => v = .pointer (some ⟨g3, k * 6, none⟩)
  | 7, _, v => v = .pointer (some ⟨g3, k * 6 + 3, none⟩)
  | 8, _, v => v = .slice x.ra x.a.reads.length x.rc
  | 9, w, v => ∃ ra rc, v = .slice ra x.a.reads.length rc ∧ Fr w H g3 ra rc x.a.reads
  | 10, _, v => v = .slice (some ⟨g3, 0, none⟩) n3 c3
  | 11, _, v => v = .int .i64 (k : Int)
  | 12, _, v => v = .pointer (some ⟨g3, k * 6, none⟩)
  | 13, _, v => v = .pointer (some ⟨g3, k * 6 + 4, none⟩)
  | 14, _, v => v = .slice x.wa x.a.writes.length x.wc
  | 15, w, v => ∃ ra rc, v = .slice ra x.a.writes.length rc ∧ Fr w H g3 ra rc x.a.writes
  | 16, _, v => v = .pointer (some ⟨g3, k * 6, none⟩)
  | 17, _, v => v = .pointer (some ⟨g3, k * 6 + 3, none⟩)
  | 19, _, v => v = .pointer (some ⟨g3, k * 6, none⟩)
  | 20, _, v => v = .pointer (some ⟨g3, k * 6 + 4, none⟩)
  | _, _, v => v = undef
theorem R9.mv {g3 n3 c3 k : Nat} {x : AX} {H : Nat} : ∀ (i : Nat) (w w' : World) (v : Value), Mv (· = g3) w w' → R9 g3 n3 c3 k x H i w v → R9 g3 n3 c3 k x H i w' v := by
  intro i w w' v hn h
  unfold R9 at h ⊢
  split <;> simp only at h <;> first
    | exact h
    | (obtain ⟨ra, rc, h1, h2⟩ := h; exact ⟨ra, rc, h1, h2.mv hn⟩)

/-- What the two stores have left. -/
def J9 (B H g3 n3 c3 : Nat) (axs : List AX) (k : Nat) (x : AX) (p q : Nat) (l : Array Bool) (w : World) : Prop :=
  ∃ x' : AX, x'.a = x.a ∧ w.ownsRow B 55 6 (.slice (some ⟨g3, 0, none⟩) n3 c3) n3 (axflat (axs.set k x')) ∧
    (l.getD p false = true → Fr w H g3 x'.ra x'.rc x.a.reads) ∧ (l.getD p false = false → x'.ra = x.ra ∧ x'.rc = x.rc) ∧
    (l.getD q false = true → Fr w H g3 x'.wa x'.wc x.a.writes) ∧ (l.getD q false = false → x'.wa = x.wa ∧ x'.wc = x.wc)
theorem J9.nu {B H g3 n3 c3 : Nat} {axs : List AX} {k : Nat} {x : AX} {p q : Nat} {l : Array Bool} {w w' : World} (h : J9 B H g3 n3 c3 axs k x p q l w) (hm : Nu w w') {i : Nat} (hp : p ≠ i) (hq : q ≠ i) : J9 B H g3 n3 c3 axs k x p q (l.setIfInBounds i true) w' := by
  obtain ⟨x', h1, h2, h3, h4, h5, h6⟩ := h
  have hm' : Mv (· = g3) w w' := hm.mono (fun _ h => h.elim)
  exact ⟨x', h1, row_mv hm h2 (fun _ _ => id), fun e => (h3 (by rwa [getD_set_ne hp] at e)).mv hm', fun e => h4 (by rwa [getD_set_ne hp] at e), fun e => (h5 (by rwa [getD_set_ne hq] at e)).mv hm', fun e => h6 (by rwa [getD_set_ne hq] at e)⟩
theorem J9.storeP {B H g3 n3 c3 : Nat} {axs : List AX} {k : Nat} {x : AX} {p q : Nat} {l : Array Bool} {w : World} (h : J9 B H g3 n3 c3 axs k x p q l w) (hk : k < axs.length) (hp : p < l.size) (hpq : p ≠ q) {ra : Option Addr} {rc : Nat} (hf : Fr w H g3 ra rc x.a.reads) :
    J9 B H g3 n3 c3 axs k x p q (l.setIfInBounds p true) (w.setCell ⟨g3, k * 6 + 3, none⟩ (.slice ra x.a.reads.length rc)) := by
  obtain ⟨x', h1, h2, h3, h4, h5, h6⟩ := h
  have hm : Mv (· = g3) w (w.setCell ⟨g3, k * 6 + 3, none⟩ (.slice ra x.a.reads.length rc)) := Mv.setCell w ⟨g3, k * 6 + 3, none⟩ _
  have hk' : k < (axs.set k x').length := by rw [List.length_set]; exact hk
  have hrow := row_set h2 (g := g3) rfl (j := k * 6 + 3) (by rw [axflat_length, List.length_set]; omega) (.slice ra x.a.reads.length rc)
  rw [axflat_set (x' := ⟨x'.a, ra, rc, x'.wa, x'.wc⟩) hk' (by omega) (by simp [AX.cells, h1]), List.set_set] at hrow
  exact ⟨⟨x'.a, ra, rc, x'.wa, x'.wc⟩, h1, hrow, fun _ => hf.mv hm, fun e => (by rw [getD_set_self hp] at e; cases e), fun e => (h5 (by rwa [getD_set_ne (fun e => hpq e.symm)] at e)).mv hm, fun e => h6 (by rwa [getD_set_ne (fun e => hpq e.symm)] at e)⟩
theorem J9.storeQ {B H g3 n3 c3 : Nat} {axs : List AX} {k : Nat} {x : AX} {p q : Nat} {l : Array Bool} {w : World} (h : J9 B H g3 n3 c3 axs k x p q l w) (hk : k < axs.length) (hq : q < l.size) (hpq : p ≠ q) {wa : Option Addr} {wc : Nat} (hf : Fr w H g3 wa wc x.a.writes) :
    J9 B H g3 n3 c3 axs k x p q (l.setIfInBounds q true) (w.setCell ⟨g3, k * 6 + 4, none⟩ (.slice wa x.a.writes.length wc)) := by
  obtain ⟨x', h1, h2, h3, h4, h5, h6⟩ := h
  have hm : Mv (· = g3) w (w.setCell ⟨g3, k * 6 + 4, none⟩ (.slice wa x.a.writes.length wc)) := Mv.setCell w ⟨g3, k * 6 + 4, none⟩ _
  have hk' : k < (axs.set k x').length := by rw [List.length_set]; exact hk
  have hrow := row_set h2 (g := g3) rfl (j := k * 6 + 4) (by rw [axflat_length, List.length_set]; omega) (.slice wa x.a.writes.length wc)
  rw [axflat_set (x' := ⟨x'.a, x'.ra, x'.rc, wa, wc⟩) hk' (by omega) (by simp [AX.cells, h1]), List.set_set] at hrow
  exact ⟨⟨x'.a, x'.ra, x'.rc, wa, wc⟩, h1, hrow, fun e => (h3 (by rwa [getD_set_ne hpq] at e)).mv hm, fun e => h4 (by rwa [getD_set_ne hpq] at e), fun _ => hf.mv hm, fun e => (by rw [getD_set_self hq] at e; cases e)⟩

section
variable {o : Oper} {a : Act} {w : World} {K : Act → World → Prop} {Q : Exit → Act → World → Prop} {d : Nat}

theorem lk_idxA {s r g n i c : Nat} (hi : i < n) (hd : o.dst = some d) (ho : o.op = .indexAddr 51 (.tmp s) (.tmp r)) (hs : a.tmps[s]? = some (.slice (some ⟨g, 0, none⟩) n c)) (hr : a.tmps[r]? = some (.int .i64 (i : Int))) (hK : ∀ w', Nu w w' → K ⟨a.tmps.setIfInBounds d (.pointer (some ⟨g, i * 6, none⟩)), a.defers⟩ w') : Oper.wp Try.prog o a w K Q := by
  have hes : a.eval (.tmp s) = .slice (some ⟨g, 0, none⟩) n c := by simp [Act.eval, hs]
  have her : a.eval (.tmp r) = .int .i64 (i : Int) := by simp [Act.eval, hr]
  have hi' : (i : Int) < (n : Int) := by omega
  unfold Oper.wp execOp
  simp only [ho, hd]
  go_simp
  exact hK w (Mv.refl _ _)

theorem lk_fieldA3 {s b f : Nat} (hd : o.dst = some d) (ho : o.op = .fieldAddr 55 (.tmp s) 3) (hs : a.tmps[s]? = some (.pointer (some ⟨b, f, none⟩))) (hK : ∀ w', Nu w w' → K ⟨a.tmps.setIfInBounds d (.pointer (some ⟨b, f + 3, none⟩)), a.defers⟩ w') : Oper.wp Try.prog o a w K Q := by
  have he : a.eval (.tmp s) = .pointer (some ⟨b, f, none⟩) := by simp [Act.eval, hs]
  unfold Oper.wp execOp
  simp only [ho, he, hd]
  go_simp
  exact hK w (Mv.refl _ _)
theorem lk_fieldA4 {s b f : Nat} (hd : o.dst = some d) (ho : o.op = .fieldAddr 55 (.tmp s) 4) (hs : a.tmps[s]? = some (.pointer (some ⟨b, f, none⟩))) (hK : ∀ w', Nu w w' → K ⟨a.tmps.setIfInBounds d (.pointer (some ⟨b, f + 4, none⟩)), a.defers⟩ w') : Oper.wp Try.prog o a w K Q := by
  have he : a.eval (.tmp s) = .pointer (some ⟨b, f, none⟩) := by simp [Act.eval, hs]
  unfold Oper.wp execOp
  simp only [ho, he, hd]
  go_simp
  exact hK w (Mv.refl _ _)

theorem lk_loadI {s b f : Nat} {v : Value} (hd : o.dst = some d) (ho : o.op = .load 44 (.tmp s)) (hs : a.tmps[s]? = some (.pointer (some ⟨b, f, none⟩))) (h0 : w.cell? ⟨b, f, none⟩ = some v) (hK : ∀ w', Nu w w' → K ⟨a.tmps.setIfInBounds d v, a.defers⟩ w') : Oper.wp Try.prog o a w K Q := by
  have he : a.eval (.tmp s) = .pointer (some ⟨b, f, none⟩) := by simp [Act.eval, hs]
  unfold Oper.wp execOp
  simp only [ho, he, hd]
  go_simp
  exact hK w (Mv.refl _ _)

theorem lk_clone {s B cap : Nat} {ao : Option Addr} {xs : List Int} (hd : o.dst = some d) (ho : o.op = .call { callee := .value (.func 36), args := #[.tmp s], argTypes := #[44] }) (hs : a.tmps[s]? = some (.slice ao xs.length cap)) (hx : IntsAt w B ao xs)
    (hK : ∀ w' ao' cap', Nu w w' → OwnI w' w.heap.size ao' cap' xs → K ⟨a.tmps.setIfInBounds d (.slice ao' xs.length cap'), a.defers⟩ w') : Oper.wp Try.prog o a w K Q := by
  have he : a.eval (.tmp s) = .slice ao xs.length cap := by simp [Act.eval, hs]
  unfold Oper.wp execOp
  simp only [ho, hd]
  go_simp
  refine Calls.mono (CloneI_any w B ao cap xs hx) ?_
  rintro e w' ⟨hm, ao', cap', rfl, hown⟩
  exact hK w' ao' cap' hm hown

theorem lk_storeI {s r b f : Nat} {cs : Array Value} {t : TypeId} {ao : Option Addr} {n c : Nat} (hd : o.dst = none) (ho : o.op = .store 44 (.tmp s) (.tmp r)) (hs : a.tmps[s]? = some (.pointer (some ⟨b, f, none⟩))) (hr : a.tmps[r]? = some (.slice ao n c)) (hb : w.heap[b]? = some (.cells cs t (0, 0))) (hf : f < cs.size)
    (hK : K a (w.setCell ⟨b, f, none⟩ (.slice ao n c))) : Oper.wp Try.prog o a w K Q := by
  have hes : a.eval (.tmp s) = .pointer (some ⟨b, f, none⟩) := by simp [Act.eval, hs]
  have her : a.eval (.tmp r) = .slice ao n c := by simp [Act.eval, hr]
  have d0 := cell_blk hb f
  rw [Array.getElem?_eq_getElem hf] at d0
  have f0 := free_blk hb f
  unfold Oper.wp execOp
  simp only [ho, hd, hes, her]
  go_simp
  exact hK

end

end Go.Proofs.Ytlgljpbbooeanaa
