/-
  JTold.
-/
import Derived.Test.YtiinmaedmkgfoaaDoorM34
import Derived.Test.YtiinmaedmkgfoaaDoorM35
import Derived.Test.YtiinmaedmkgfoaaDoorM39
/-
  The program's told: a foot in the words of systems.
-/
set_option linter.unusedVariables false
set_option linter.unusedSimpArgs false
namespace Go.Proofs.YtiinmaedmkgfoaaDoor
open Go.RowKit

/-- What told answers. -/
def TOut (w : World) (f : Ft) (e : Ending) (w' : World) : Prop :=
  Nu w w' ∧ ∃ ra rc wa wc, e = .returned (.agg #[.slice ra (bitsOf f.r).length rc, .slice wa (bitsOf f.w).length wc, .int .u64 (f.t : Int)]) ∧ OwnI w' w.heap.size ra rc (ints (bitsOf f.r)) ∧ OwnI w' w.heap.size wa wc (ints (bitsOf f.w))

/-- Numbers of a set, in a row of one's own. -/
def LsV (w : World) (H : Nat) (x : Nat) (v : Value) : Prop := ∃ ao cap, v = .slice ao (bitsOf x).length cap ∧ OwnI w H ao cap (ints (bitsOf x))
theorem LsV.nu {w w' : World} {H x : Nat} {v : Value} (h : LsV w H x v) (hn : Nu w w') : LsV w' H x v := by
  obtain ⟨ao, cap, h1, h2⟩ := h
  exact ⟨ao, cap, h1, h2.mv hn (fun _ _ _ => id) (Nat.le_refl _)⟩

section
variable {o : Oper} {a : Act} {w : World} {K : Act → World → Prop} {Q : Exit → Act → World → Prop} {d : Nat}
theorem lk_fieldF0 {s b f : Nat} (hd : o.dst = some d) (ho : o.op = .fieldAddr 145 (.tmp s) 0) (hs : a.tmps[s]? = some (.pointer (some ⟨b, f, none⟩))) (hK : ∀ w', Nu w w' → K ⟨a.tmps.setIfInBounds d (.pointer (some ⟨b, f, none⟩)), a.defers⟩ w') : Oper.wp Tryd.prog o a w K Q := by
  have he : a.eval (.tmp s) = .pointer (some ⟨b, f, none⟩) := by simp [Act.eval, hs]
  unfold Oper.wp execOp
  simp only [ho, he, hd]
  go_simp
  exact hK w (Mv.refl _ _)
theorem lk_fieldF1 {s b f : Nat} (hd : o.dst = some d) (ho : o.op = .fieldAddr 145 (.tmp s) 1) (hs : a.tmps[s]? = some (.pointer (some ⟨b, f, none⟩))) (hK : ∀ w', Nu w w' → K ⟨a.tmps.setIfInBounds d (.pointer (some ⟨b, f + 1, none⟩)), a.defers⟩ w') : Oper.wp Tryd.prog o a w K Q := by
  have he : a.eval (.tmp s) = .pointer (some ⟨b, f, none⟩) := by simp [Act.eval, hs]
  unfold Oper.wp execOp
  simp only [ho, he, hd]
  go_simp
  exact hK w (Mv.refl _ _)
theorem lk_fieldF2 {s b f : Nat} (hd : o.dst = some d) (ho : o.op = .fieldAddr 145 (.tmp s) 2) (hs : a.tmps[s]? = some (.pointer (some ⟨b, f, none⟩))) (hK : ∀ w', Nu w w' → K ⟨a.tmps.setIfInBounds d (.pointer (some ⟨b, f + 2, none⟩)), a.defers⟩ w') : Oper.wp Tryd.prog o a w K Q := by
  have he : a.eval (.tmp s) = .pointer (some ⟨b, f, none⟩) := by simp [Act.eval, hs]
  unfold Oper.wp execOp
  simp only [ho, he, hd]
  go_simp
  exact hK w (Mv.refl _ _)
theorem lk_loadUF {s b f : Nat} {n : Int} (hd : o.dst = some d) (ho : o.op = .load 39 (.tmp s)) (hs : a.tmps[s]? = some (.pointer (some ⟨b, f, none⟩))) (h0 : w.cell? ⟨b, f, none⟩ = some (.int .u64 n)) (hK : ∀ w', Nu w w' → K ⟨a.tmps.setIfInBounds d (.int .u64 n), a.defers⟩ w') : Oper.wp Tryd.prog o a w K Q := by
  have he : a.eval (.tmp s) = .pointer (some ⟨b, f, none⟩) := by simp [Act.eval, hs]
  unfold Oper.wp execOp
  simp only [ho, he, hd]
  go_simp
  exact hK w (Mv.refl _ _)
theorem lk_listed {s x : Nat} (hx : x < 18446744073709551616) (hT : TabAt 0 Lib.deBruijn64tab w) (hd : o.dst = some d) (ho : o.op = .call { callee := .value (.func 61), args := #[.tmp s], argTypes := #[39] }) (hs : a.tmps[s]? = some (.int .u64 (x : Int)))
    (hK : ∀ w' v, Nu w w' → LsV w' w.heap.size x v → K ⟨a.tmps.setIfInBounds d v, a.defers⟩ w') : Oper.wp Tryd.prog o a w K Q := by
  have he : a.eval (.tmp s) = .int .u64 (x : Int) := by simp [Act.eval, hs]
  unfold Oper.wp execOp
  simp only [ho, hd]
  go_simp
  refine Calls.mono (listed_any x hx w hT) ?_
  rintro e w' ⟨hm, ao, cap, rfl, hown⟩
  exact hK w' _ hm ⟨ao, cap, rfl, hown⟩
theorem lk_buildFt {s0 s1 s2 : Nat} {v0 v1 v2 : Value} (h0' : ∃ a b c, v0 = .slice a b c) (h1' : ∃ a b c, v1 = .slice a b c) (h2' : ∃ n, v2 = .int .u64 n) (hd : o.dst = some d) (ho : o.op = .build 58 #[(0, .tmp s0), (1, .tmp s1), (2, .tmp s2)]) (h0 : a.tmps[s0]? = some v0) (h1 : a.tmps[s1]? = some v1) (h2 : a.tmps[s2]? = some v2)
    (hK : ∀ w', Nu w w' → K ⟨a.tmps.setIfInBounds d (.agg #[v0, v1, v2]), a.defers⟩ w') : Oper.wp Tryd.prog o a w K Q := by
  obtain ⟨x0, y0, z0, rfl⟩ := h0'
  obtain ⟨x1, y1, z1, rfl⟩ := h1'
  obtain ⟨n2, rfl⟩ := h2'
  have e0 : a.eval (.tmp s0) = .slice x0 y0 z0 := by simp [Act.eval, h0]
  have e1 : a.eval (.tmp s1) = .slice x1 y1 z1 := by simp [Act.eval, h1]
  have e2 : a.eval (.tmp s2) = .int .u64 n2 := by simp [Act.eval, h2]
  unfold Oper.wp execOp
  simp only [ho, hd]
  go_simp
  exact hK w (Mv.refl _ _)
theorem lk_storeFt {s r nb : Nat} {z0 z1 z2 : Value} {ra wa : Option Addr} {rn rc wn wc : Nat} {n : Int} (hd : o.dst = none) (ho : o.op = .store 58 (.tmp s) (.tmp r)) (hs : a.tmps[s]? = some (.pointer (some ⟨nb, 0, none⟩))) (hr : a.tmps[r]? = some (.agg #[.slice ra rn rc, .slice wa wn wc, .int .u64 n])) (hb : w.heap[nb]? = some (.cells #[z0, z1, z2] 58 (0, 0)))
    (hK : ∀ w', w'.heap[nb]? = some (.cells #[.slice ra rn rc, .slice wa wn wc, .int .u64 n] 58 (0, 0)) → Mv (· = nb) w w' → K a w') : Oper.wp Tryd.prog o a w K Q := by
  have hes : a.eval (.tmp s) = .pointer (some ⟨nb, 0, none⟩) := by simp [Act.eval, hs]
  have her : a.eval (.tmp r) = .agg #[.slice ra rn rc, .slice wa wn wc, .int .u64 n] := by simp [Act.eval, hr]
  obtain ⟨d0, d1, d2⟩ := cells3 hb
  have f0 := free_blk hb 0
  have f1 := free_blk hb 1
  have f2 := free_blk hb 2
  unfold Oper.wp execOp
  simp only [ho, hd, hes, her]
  go_simp
  obtain ⟨h1, h2⟩ := set3 (v0 := .slice ra rn rc) (v1 := .slice wa wn wc) (v2 := .int .u64 n) hb
  exact hK _ h1 h2
end

def RTo (b fo : Nat) (f : Ft) (H : Nat) : Nat → World → Value → Prop
  | 0, _, v => v = .pointer (some ⟨b, fo, none⟩)
  | 1, _, v => v = .pointer (some ⟨b, fo, none⟩)
  | 2, _, v => v = .pointer (some ⟨b, fo, none⟩)
  | 3, _, v => v = .int .u64 (f.r : Int)
  | 4, w, v => LsV w H f.r v
  | 5, _, v => v = .pointer (some ⟨b, fo, none⟩)
  | 6, _, v => v = .pointer (some ⟨b, fo, none⟩)
  | 7, _, v => v = .pointer (some ⟨b, fo + 1, none⟩)
  | 8, _, v => v = .int .u64 (f.w : Int)
  | 9, w, v => LsV w H f.w v
  | 10, _, v => v = .pointer (some ⟨b, fo, none⟩)
  | 11, _, v => v = .pointer (some ⟨b, fo, none⟩)
  | 12, _, v => v = .pointer (some ⟨b, fo + 2, none⟩)
  | 13, _, v => v = .int .u64 (f.t : Int)
  | 14, w, v => ∃ u x, v = .agg #[u, x, .int .u64 (f.t : Int)] ∧ LsV w H f.r u ∧ LsV w H f.w x
  | _, _, v => v = undef
theorem RTo.nu {b fo : Nat} {f : Ft} {H : Nat} : ∀ (i : Nat) (w w' : World) (v : Value), Nu w w' → RTo b fo f H i w v → RTo b fo f H i w' v := by
  intro i w w' v hn h
  unfold RTo at h ⊢
  split <;> simp only at h <;> first
    | exact h
    | exact LsV.nu h hn
    | (obtain ⟨u, x, h1, h2, h3⟩ := h; exact ⟨u, x, h1, h2.nu hn, h3.nu hn⟩)
theorem LsV.low {w : World} {H H' x : Nat} {v : Value} (h : LsV w H x v) (hl : H' ≤ H) : LsV w H' x v := by
  obtain ⟨ao, cap, h1, h2⟩ := h
  exact ⟨ao, cap, h1, h2.mv (Mv.refl (fun _ => False) w) (fun _ _ _ => id) hl⟩
theorem LsV.sl {w : World} {H x : Nat} {v : Value} (h : LsV w H x v) : ∃ a b c, v = .slice a b c := by
  obtain ⟨ao, cap, h1, _⟩ := h
  exact ⟨_, _, _, h1⟩

set_option maxHeartbeats 4000000 in
set_option maxRecDepth 40000 in
theorem told_any (w : World) (b fo : Nat) (f : Ft) (hf : FtAt w b fo f) (hs : f.Small) (hT : TabAt 0 Lib.deBruijn64tab w) : Calls Tryd.prog 95 #[.pointer (some ⟨b, fo, none⟩)] w (TOut w f) := by
  have HF := hid hf
  have HS := hid hs
  have HT := hid hT
  clear hf hs hT
  have HN1 : Hid (Nu w (w.alloc (.cells #[.slice none 0 0, .slice none 0 0, .int .u64 0] 58))) := Mv.alloc _ _ _
  have HB1 : Hid ((w.alloc (.cells #[.slice none 0 0, .slice none 0 0, .int .u64 0] 58)).heap[w.heap.size]? = some (.cells #[.slice none 0 0, .slice none 0 0, .int .u64 0] 58 (0, 0))) := heap_alloc_new w _
  go_enter Tryd.func95, Tryd.ntmps95
  go_upto_region 1 with fail
  generalize w.alloc (.cells #[.slice none 0 0, .slice none 0 0, .int .u64 0] 58) = w1 at *
  rename_i KC hKC
  refine wp_lookS (RTo b fo f w.heap.size) RTo.nu (by kernel_rfl) (by kernel_rfl) ?step ?last
  case step =>
    intro i o d a w' ho hd hn hfr had K hK
    have hi : i < 16 := (Array.getElem?_eq_some_iff.1 ho).1
    have f0 := hfr 0 (by kernel_rfl)
    have hnw := mv0 HN1.out hn
    have hT := tab_nu HT.out hnw
    have hsz := hnw.size
    have : i = 0 ∨ i = 1 ∨ i = 2 ∨ i = 3 ∨ i = 4 ∨ i = 5 ∨ i = 6 ∨ i = 7 ∨ i = 8 ∨ i = 9 ∨ i = 10 ∨ i = 11 ∨ i = 12 ∨ i = 13 ∨ i = 14 ∨ i = 15 := by omega
    rcases this with rfl | rfl | rfl | rfl | rfl | rfl | rfl | rfl | rfl | rfl | rfl | rfl | rfl | rfl | rfl | rfl <;> cases ho <;> cases hd
    · exact ite_yes (want_none rfl) (lk_move rfl rfl f0 (fun w' hm => hK w' _ hm rfl))
    · obtain ⟨⟨_, h0, rfl⟩, _⟩ := had; exact ite_yes (want_none rfl) (lk_nilP rfl rfl h0 (fun w' hm => hK w' _ hm rfl))
    · obtain ⟨⟨_, h0, rfl⟩, _⟩ := had; exact ite_yes (want_none rfl) (lk_fieldF0 rfl rfl h0 (fun w' hm => hK w' _ hm rfl))
    · obtain ⟨⟨_, h0, rfl⟩, _⟩ := had; exact ite_yes (want_none rfl) (lk_loadUF rfl rfl h0 (cell_mv hnw HF.out.c0 id) (fun w' hm => hK w' _ hm rfl))
    · obtain ⟨⟨_, h0, rfl⟩, _⟩ := had; exact ite_yes (want_none rfl) (lk_listed HS.out.1 hT rfl rfl h0 (fun w2 v hm hv => hK w2 _ hm (hv.low hsz)))
    · exact ite_yes (want_none rfl) (lk_move rfl rfl f0 (fun w' hm => hK w' _ hm rfl))
    · obtain ⟨⟨_, h0, rfl⟩, _⟩ := had; exact ite_yes (want_none rfl) (lk_nilP rfl rfl h0 (fun w' hm => hK w' _ hm rfl))
    · obtain ⟨⟨_, h0, rfl⟩, _⟩ := had; exact ite_yes (want_none rfl) (lk_fieldF1 rfl rfl h0 (fun w' hm => hK w' _ hm rfl))
    · obtain ⟨⟨_, h0, rfl⟩, _⟩ := had; exact ite_yes (want_none rfl) (lk_loadUF rfl rfl h0 (cell_mv hnw HF.out.c1 id) (fun w' hm => hK w' _ hm rfl))
    · obtain ⟨⟨_, h0, rfl⟩, _⟩ := had; exact ite_yes (want_none rfl) (lk_listed HS.out.2.1 hT rfl rfl h0 (fun w2 v hm hv => hK w2 _ hm (hv.low hsz)))
    · exact ite_yes (want_none rfl) (lk_move rfl rfl f0 (fun w' hm => hK w' _ hm rfl))
    · obtain ⟨⟨_, h0, rfl⟩, _⟩ := had; exact ite_yes (want_none rfl) (lk_nilP rfl rfl h0 (fun w' hm => hK w' _ hm rfl))
    · obtain ⟨⟨_, h0, rfl⟩, _⟩ := had; exact ite_yes (want_none rfl) (lk_fieldF2 rfl rfl h0 (fun w' hm => hK w' _ hm rfl))
    · obtain ⟨⟨_, h0, rfl⟩, _⟩ := had; exact ite_yes (want_none rfl) (lk_loadUF rfl rfl h0 (cell_mv hnw HF.out.c2 id) (fun w' hm => hK w' _ hm rfl))
    · obtain ⟨⟨_, h0, hv0⟩, ⟨_, h1, hv1⟩, ⟨_, h2, rfl⟩, _⟩ := had
      exact ite_yes (want_none rfl) (lk_buildFt (LsV.sl hv0) (LsV.sl hv1) ⟨_, rfl⟩ rfl rfl h0 h1 h2 (fun w2 hm => hK w2 _ hm ⟨_, _, rfl, LsV.nu hv0 hm, LsV.nu hv1 hm⟩))
  case last =>
    intro p a w5 ho hn5 hdf hsz hfr htv
    cases ho
    obtain ⟨v4, t4, _⟩ := htv 4 _ 7 rfl rfl
    obtain ⟨v9, t9, _⟩ := htv 9 _ 12 rfl rfl
    obtain ⟨_, t14, _, _, rfl, ⟨ra, rc, rfl, hor⟩, ⟨wa, wc, rfl, how⟩⟩ := htv 14 _ 17 rfl rfl
    have f2 : a.tmps[2]? = some (.pointer (some ⟨w.heap.size, 0, none⟩)) := hfr 2 (by kernel_rfl)
    have htm := fill_eq (vals := fun i => ([.pointer (some ⟨b, fo, none⟩), .pointer (some ⟨b, fo, none⟩), .pointer (some ⟨b, fo, none⟩), .int .u64 (f.r : Int), v4, .pointer (some ⟨b, fo, none⟩), .pointer (some ⟨b, fo, none⟩), .pointer (some ⟨b, fo + 1, none⟩), .int .u64 (f.w : Int), v9, .pointer (some ⟨b, fo, none⟩), .pointer (some ⟨b, fo, none⟩), .pointer (some ⟨b, fo + 2, none⟩), .int .u64 (f.t : Int), .agg #[.slice ra (bitsOf f.r).length rc, .slice wa (bitsOf f.w).length wc, .int .u64 (f.t : Int)]] : List Value).getD i undef) (by kernel_rfl) hfr (fun i p d hi hd => by
      have hi' : i < 16 := (Array.getElem?_eq_some_iff.1 hi).1
      obtain ⟨v, h, hv⟩ := htv i p d hi hd
      have : i = 0 ∨ i = 1 ∨ i = 2 ∨ i = 3 ∨ i = 4 ∨ i = 5 ∨ i = 6 ∨ i = 7 ∨ i = 8 ∨ i = 9 ∨ i = 10 ∨ i = 11 ∨ i = 12 ∨ i = 13 ∨ i = 14 ∨ i = 15 := by omega
      rcases this with rfl | rfl | rfl | rfl | rfl | rfl | rfl | rfl | rfl | rfl | rfl | rfl | rfl | rfl | rfl | rfl <;> cases hi <;> cases hd <;> first | exact t4 | exact t9 | exact t14 | exact h.trans (congrArg some hv))
    refine lk_storeFt rfl rfl f2 t14 (hn5.heap HB1.out id) (fun w6 hb6 hm6 => ?_)
    refine hKC _ _ ?_
    have HN5 : Hid (Nu w w5) := mv0 HN1.out hn5
    have HN6 : Hid (Nu w w6) := HN5.out.trans hm6 (fun x hx => .inr (by have : x = w.heap.size := hx; omega))
    have HB6 := hid hb6
    have hty : ∀ (g : Nat) (cs : Array Value), w5.heap[g]? = some (.cells cs 3 (0, 0)) → ¬ g = w.heap.size := fun g cs hg e => by
      have := hn5.heap HB1.out id
      rw [e, this] at hg
      simp at hg
    have hmvO : ∀ (ao : Option Addr) (c : Nat) (xs : List Int), OwnI w5 w.heap.size ao c xs → OwnI w6 w.heap.size ao c xs := fun ao c xs hq => hq.mv hm6 (fun a hc ha => by
      rcases hq.row with h0 | ⟨g, cs, hg, _, hb, _⟩
      · omega
      · rw [hg] at ha; cases ha; exact hty _ _ hb) (Nat.le_refl _)
    have HOR := hid (hmvO _ _ _ hor)
    have HOW := hid (hmvO _ _ _ how)
    rw [act_eq' htm hdf]
    clear htm hdf hn5 hsz hfr htv t4 t9 t14 f2 hb6 hm6 hKC hor how hmvO hty
    simp only [fill, List.getD_cons_succ, List.getD_cons_zero, List.setIfInBounds_toArray, List.set_cons_succ, List.set_cons_zero]
    go_wp2
    refine bodyPost_ret (results_cell_row rfl _ _ w.heap.size 58 _ (0, 0) _ rfl HB6.out Tryd.underlying58 rfl (by kernel_rfl)) rfl ?_
    exact ⟨HN6.out, ra, rc, wa, wc, rfl, HOR.out, HOW.out⟩

end Go.Proofs.YtiinmaedmkgfoaaDoor
