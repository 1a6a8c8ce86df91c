/-
  SSame, SSame2, SSame3, SSameArgs, SSameAst.
-/
import Derived.Deep.Cut
import Derived.Deep.RegionWith
import Derived.Laws.NewBlocks
import Derived.Test.YthmdgbmodgfcmaaGreatDoorM27
/-
  Trees that are the same are told to be the same: what the functions that compare expressions give of two that hold the same data.
-/
namespace Go.Proofs.YthmdgbmodgfcmaaGreatDoor
open Go.RowKit

/-- What an expression's cells are. -/
def wfA : Nat → List D → Prop
  | 0, _ => False
  | f + 1, ds => ∃ n0 n1 s2 s3 e4 e5 e6 e7 e8, ds = [.num n0, .num n1, .str s2, .str s3, .row .str e4, .row .ast e5, .row .bool e6, .row .ast e7, .row .arg e8] ∧
      (e4.length ≤ 1000000 ∧ ∀ e ∈ e4, ∃ s, e = [D.str s]) ∧ (e5.length ≤ 1000000 ∧ ∀ e ∈ e5, wfA f e) ∧ (e6.length ≤ 1000000 ∧ ∀ e ∈ e6, ∃ b, e = [D.bit b]) ∧
      (e7.length ≤ 1000000 ∧ ∀ e ∈ e7, wfA f e) ∧ (e8.length ≤ 1000000 ∧ ∀ e ∈ e8, ∃ m a r, e = D.bit m :: D.bit a :: r ∧ wfA f r)

/-- It answers true of two values, from this world on. -/
def Tru (K : FuncId) (w : World) (a b : Value) : Prop := ∀ W, Mv (fun _ => False) w W → Calls Tryz.prog K #[a, b] W fun e w' => e = .returned (.bool true) ∧ Mv (fun _ => False) W w'

theorem mv0 {a b c : World} (h : Mv (fun _ => False) a b) (k : Mv (fun _ => False) b c) : Mv (fun _ => False) a c := h.trans k (fun _ h => h.elim)

/-- A row's slice. -/
theorem rowd_form {w : World} {v : Value} {t : Ty} {els : List (List D)} (h : DIs ty w (fun _ => True) v (.row t els)) :
    ∃ ao cap, v = .slice ao els.length cap ∧ ∀ (j : Nat) (e : List D), els[j]? = some e → ∃ g, ao = some ⟨g, 0, none⟩ ∧ Ro w g (j * ty.size t) e := by
  rcases h.els with ⟨rfl, rfl⟩ | ⟨g, cap, _, rfl, hj⟩
  · exact ⟨none, 0, rfl, fun j e h => by simp at h⟩
  · exact ⟨_, cap, rfl, fun j e he => ⟨g, rfl, hj j e he⟩⟩

theorem DIs.mv {w w' : World} {v : Value} {d : D} (h : DIs ty w (fun _ => True) v d) (hm : Mv (fun _ => False) w w') : DIs ty w' (fun _ => True) v d := h.kept (fun g _ hg => hm.block g hg id)
theorem Ro.mv {w w' : World} {b o : Nat} {ds : List D} (h : Ro w b o ds) (hm : Mv (fun _ => False) w w') : Ro w' b o ds := ⟨fun i d hd => by
  obtain ⟨v, h1, h2⟩ := h.c i d hd
  exact ⟨v, cell_mv hm h1 id, h2.mv hm⟩⟩

theorem Ro.str0 {w : World} {b o : Nat} {s : List UInt8} (h : Ro w b o [.str s]) : w.cell? ⟨b, o, none⟩ = some (.string (strOfL s)) := by
  obtain ⟨v, h1, h2⟩ := h.c 0 _ rfl
  cases h2
  exact h1
theorem Ro.bit0 {w : World} {b o : Nat} {s : Bool} {r : List D} (h : Ro w b o (.bit s :: r)) : w.cell? ⟨b, o, none⟩ = some (.bool s) := by
  obtain ⟨v, h1, h2⟩ := h.c 0 _ rfl
  cases h2
  exact h1

set_option maxHeartbeats 2000000 in
theorem texts_any (els : List (List D)) (hl : els.length ≤ 1000000) (hs : ∀ e ∈ els, ∃ s, e = [D.str s]) (w : World) (a b : Value) (ha : DIs ty w (fun _ => True) a (.row .str els)) (hb : DIs ty w (fun _ => True) b (.row .str els)) : Tru 16 w a b := by
  intro W hW
  obtain ⟨ao, ca, rfl, hea⟩ := rowd_form (ha.mv hW)
  obtain ⟨bo, cb, rfl, heb⟩ := rowd_form (hb.mv hW)
  obtain ⟨N, hN⟩ : ∃ N : Nat, els.length = N := ⟨_, rfl⟩
  have HE : Hid (∀ i, i < N → ∃ ga gb s, ao = some ⟨ga, 0, none⟩ ∧ bo = some ⟨gb, 0, none⟩ ∧ W.cell? ⟨ga, i, none⟩ = some (.string s) ∧ W.cell? ⟨gb, i, none⟩ = some (.string s)) := fun i hi => by
    have hi' : i < els.length := by omega
    obtain ⟨s, hs'⟩ := hs els[i] (List.getElem_mem hi')
    obtain ⟨ga, h1, h2⟩ := hea i _ (List.getElem?_eq_getElem hi')
    obtain ⟨gb, h3, h4⟩ := heb i _ (List.getElem?_eq_getElem hi')
    rw [hs'] at h2 h4
    have h5 := h2.str0
    have h6 := h4.str0
    rw [show i * ty.size .str = i from Nat.mul_one i] at h5 h6
    exact ⟨ga, gb, _, h1, h3, h5, h6⟩
  rw [hN]
  have hle : (N : Int) ≤ 1000000 := by omega
  clear hea heb ha hb hs hl hN hW
  go_enter Tryz.func16, Tryz.ntmps16
  go_wp2_with fail
  go_loopw [5] (fun iv wr => ∃ i : Nat, i ≤ N ∧ iv = .int .i64 (i : Int) ∧ Hid (Mv (fun _ => False) W wr)) (fun iv _ => N - (intOf iv).toNat)
  case atStart => exact ⟨0, Nat.zero_le _, rfl, Mv.refl _ _⟩
  case round =>
    obtain ⟨i, hi, rfl, HM⟩ := hrel
    by_cases hj : i < N
    · have hj' : (i : Int) < (N : Int) := by omega
      obtain ⟨ga, gb, s, rfl, rfl, h1, h2⟩ := HE.out i hj
      have h3 := cell_mv HM.out h1 id
      have h4 := cell_mv HM.out h2 id
      clear h1 h2 HE
      go_wp2_with fail
      go_quiet (fail)
      go_wp2_with fail
      go_roundw
      case rel => exact ⟨i + 1, hj, by go_num, by first | exact HM | exact mv0 HM.out (Mv.drewN _ _ _) | exact mv0 HM.out (Mv.drew _ _)⟩
      case measure => simp [intOf]; omega
    · have hj' : ¬ (i : Int) < (N : Int) := by omega
      clear HE
      go_wp2_with fail
      go_ret
      exact ⟨rfl, HM.out⟩

end Go.Proofs.YthmdgbmodgfcmaaGreatDoor
/-
  Rows of expressions that are the same are told to be the same.
-/
namespace Go.Proofs.YthmdgbmodgfcmaaGreatDoor
open Go.RowKit

/-- A value that holds an expression's data. -/
def AIs (w : World) (v : Value) (ds : List D) : Prop := ∃ v0 v1 v2 v3 v4 v5 v6 v7 v8, v = .agg #[v0, v1, v2, v3, v4, v5, v6, v7, v8] ∧ ∀ (i : Nat) (d : D), ds[i]? = some d → ∃ u, (#[v0, v1, v2, v3, v4, v5, v6, v7, v8] : Array Value)[i]? = some u ∧ DIs ty w (fun _ => True) u d

theorem AIs.mv {w w' : World} {v : Value} {ds : List D} (h : AIs w v ds) (hm : Mv (fun _ => False) w w') : AIs w' v ds := by
  obtain ⟨v0, v1, v2, v3, v4, v5, v6, v7, v8, h1, h2⟩ := h
  exact ⟨v0, v1, v2, v3, v4, v5, v6, v7, v8, h1, fun i d hd => by obtain ⟨u, h3, h4⟩ := h2 i d hd; exact ⟨u, h3, h4.mv hm⟩⟩

theorem wfA_len {f : Nat} {ds : List D} (h : wfA f ds) : ds.length = 9 := by
  cases f with
  | zero => exact h.elim
  | succ f => obtain ⟨n0, n1, s2, s3, e4, e5, e6, e7, e8, rfl, _⟩ := h; rfl

/-- The nine cells of one. -/
structure Cells9 (w : World) (g o : Nat) (v0 v1 v2 v3 v4 v5 v6 v7 v8 : Value) : Prop where
  c0 : w.cell? ⟨g, o, none⟩ = some v0
  c1 : w.cell? ⟨g, o + 1, none⟩ = some v1
  c2 : w.cell? ⟨g, o + 2, none⟩ = some v2
  c3 : w.cell? ⟨g, o + 3, none⟩ = some v3
  c4 : w.cell? ⟨g, o + 4, none⟩ = some v4
  c5 : w.cell? ⟨g, o + 5, none⟩ = some v5
  c6 : w.cell? ⟨g, o + 6, none⟩ = some v6
  c7 : w.cell? ⟨g, o + 7, none⟩ = some v7
  c8 : w.cell? ⟨g, o + 8, none⟩ = some v8

theorem Cells9.mv {w w' : World} {g o : Nat} {v0 v1 v2 v3 v4 v5 v6 v7 v8 : Value} (h : Cells9 w g o v0 v1 v2 v3 v4 v5 v6 v7 v8) (hm : Mv (fun _ => False) w w') : Cells9 w' g o v0 v1 v2 v3 v4 v5 v6 v7 v8 :=
  ⟨cell_mv hm h.c0 id, cell_mv hm h.c1 id, cell_mv hm h.c2 id, cell_mv hm h.c3 id, cell_mv hm h.c4 id, cell_mv hm h.c5 id, cell_mv hm h.c6 id, cell_mv hm h.c7 id, cell_mv hm h.c8 id⟩

theorem Ro.nine {w : World} {g o : Nat} {ds : List D} (h : Ro w g o ds) (hl : ds.length = 9) : ∃ v0 v1 v2 v3 v4 v5 v6 v7 v8, Cells9 w g o v0 v1 v2 v3 v4 v5 v6 v7 v8 ∧ AIs w (.agg #[v0, v1, v2, v3, v4, v5, v6, v7, v8]) ds := by
  have hc : ∀ i, i < 9 → ∃ v, w.cell? ⟨g, o + i, none⟩ = some v := fun i hi => by
    obtain ⟨v, h1, _⟩ := h.c i ds[i] (List.getElem?_eq_getElem (by omega))
    exact ⟨v, h1⟩
  obtain ⟨v0, h0⟩ := hc 0 (by omega)
  obtain ⟨v1, h1⟩ := hc 1 (by omega)
  obtain ⟨v2, h2⟩ := hc 2 (by omega)
  obtain ⟨v3, h3⟩ := hc 3 (by omega)
  obtain ⟨v4, h4⟩ := hc 4 (by omega)
  obtain ⟨v5, h5⟩ := hc 5 (by omega)
  obtain ⟨v6, h6⟩ := hc 6 (by omega)
  obtain ⟨v7, h7⟩ := hc 7 (by omega)
  obtain ⟨v8, h8⟩ := hc 8 (by omega)
  rw [Nat.add_zero] at h0
  have hk : Cells9 w g o v0 v1 v2 v3 v4 v5 v6 v7 v8 := ⟨h0, h1, h2, h3, h4, h5, h6, h7, h8⟩
  refine ⟨v0, v1, v2, v3, v4, v5, v6, v7, v8, hk, v0, v1, v2, v3, v4, v5, v6, v7, v8, rfl, fun i d hd => ?_⟩
  obtain ⟨u, hu, hD⟩ := h.c i d hd
  have hi : i < 9 := by have := (List.getElem?_eq_some_iff.1 hd).1; omega
  refine ⟨u, ?_, hD⟩
  rcases i with _ | _ | _ | _ | _ | _ | _ | _ | _ | i
  · rw [Nat.add_zero] at hu; exact hk.c0.symm.trans hu
  · exact hk.c1.symm.trans hu
  · exact hk.c2.symm.trans hu
  · exact hk.c3.symm.trans hu
  · exact hk.c4.symm.trans hu
  · exact hk.c5.symm.trans hu
  · exact hk.c6.symm.trans hu
  · exact hk.c7.symm.trans hu
  · exact hk.c8.symm.trans hu
  · omega

def SameP (f : Nat) : Prop := ∀ ds, wfA f ds → ∀ w a b, AIs w a ds → AIs w b ds → Tru 12 w a b

set_option maxHeartbeats 4000000 in
theorem sameAsts_any (f : Nat) (hK : SameP f) (els : List (List D)) (hl : els.length ≤ 1000000) (hs : ∀ e ∈ els, wfA f e) (w : World) (a b : Value) (ha : DIs ty w (fun _ => True) a (.row .ast els)) (hb : DIs ty w (fun _ => True) b (.row .ast els)) : Tru 26 w a b := by
  intro W hW
  obtain ⟨ao, ca, rfl, hea⟩ := rowd_form (ha.mv hW)
  obtain ⟨bo, cb, rfl, heb⟩ := rowd_form (hb.mv hW)
  obtain ⟨N, hN⟩ : ∃ N : Nat, els.length = N := ⟨_, rfl⟩
  have HE : Hid (∀ i, i < N → ∃ ga gb a0 a1 a2 a3 a4 a5 a6 a7 a8 b0 b1 b2 b3 b4 b5 b6 b7 b8, ao = some ⟨ga, 0, none⟩ ∧ bo = some ⟨gb, 0, none⟩ ∧ Cells9 W ga (i * 9) a0 a1 a2 a3 a4 a5 a6 a7 a8 ∧ Cells9 W gb (i * 9) b0 b1 b2 b3 b4 b5 b6 b7 b8 ∧
      Tru 12 W (.agg #[a0, a1, a2, a3, a4, a5, a6, a7, a8]) (.agg #[b0, b1, b2, b3, b4, b5, b6, b7, b8])) := fun i hi => by
    have hi' : i < els.length := by omega
    have hw := hs els[i] (List.getElem_mem hi')
    obtain ⟨ga, h1, h2⟩ := hea i _ (List.getElem?_eq_getElem hi')
    obtain ⟨gb, h3, h4⟩ := heb i _ (List.getElem?_eq_getElem hi')
    obtain ⟨a0, a1, a2, a3, a4, a5, a6, a7, a8, hac, hai⟩ := h2.nine (wfA_len hw)
    obtain ⟨b0, b1, b2, b3, b4, b5, b6, b7, b8, hbc, hbi⟩ := h4.nine (wfA_len hw)
    exact ⟨ga, gb, a0, a1, a2, a3, a4, a5, a6, a7, a8, b0, b1, b2, b3, b4, b5, b6, b7, b8, h1, h3, hac, hbc, hK _ hw _ _ _ hai hbi⟩
  rw [hN]
  have hle : (N : Int) ≤ 1000000 := by omega
  clear hea heb ha hb hs hl hN hW hK
  go_enter Tryz.func26, Tryz.ntmps26
  go_wp2_with fail
  go_loopw [5] (fun iv wr => ∃ i : Nat, i ≤ N ∧ iv = .int .i64 (i : Int) ∧ Hid (Mv (fun _ => False) W wr)) (fun iv _ => N - (intOf iv).toNat)
  case atStart => exact ⟨0, Nat.zero_le _, rfl, Mv.refl _ _⟩
  case round =>
    obtain ⟨i, hi, rfl, HM⟩ := hrel
    by_cases hj : i < N
    · have hj' : (i : Int) < (N : Int) := by omega
      obtain ⟨ga, gb, a0, a1, a2, a3, a4, a5, a6, a7, a8, b0, b1, b2, b3, b4, b5, b6, b7, b8, rfl, rfl, h1, h2, hT⟩ := HE.out i hj
      obtain ⟨p0, p1, p2, p3, p4, p5, p6, p7, p8⟩ := h1.mv HM.out
      obtain ⟨q0, q1, q2, q3, q4, q5, q6, q7, q8⟩ := h2.mv HM.out
      have HT : Hid (Tru 12 W (.agg #[a0, a1, a2, a3, a4, a5, a6, a7, a8]) (.agg #[b0, b1, b2, b3, b4, b5, b6, b7, b8])) := hT
      clear h1 h2 HE hT
      go_wp2_with fail
      go_region_with (go_at_call 12; refine (HT.out _ (mv0 HM.out (by repeat (first | exact Mv.refl _ _ | refine mv0 ?_ (Mv.drew _ _) | refine mv0 ?_ (Mv.drewN _ _ _))))).mono ?_; rintro e w1 ⟨rfl, hm1⟩; have HM1 : Hid (Mv (fun _ => False) W w1) := mv0 (mv0 HM.out (by repeat (first | exact Mv.refl _ _ | refine mv0 ?_ (Mv.drew _ _) | refine mv0 ?_ (Mv.drewN _ _ _)))) hm1; clear hm1)
      all_goals go_wp2_with fail
      all_goals go_roundw
      all_goals first
        | exact ⟨i + 1, hj, by go_num, HM1⟩
        | (simp [intOf]; omega)
    · have hj' : ¬ (i : Int) < (N : Int) := by omega
      clear HE
      go_wp2_with fail
      go_ret
      exact ⟨rfl, HM.out⟩

end Go.Proofs.YthmdgbmodgfcmaaGreatDoor
/-
  Names and their indices that are the same, arguments that are the same, expressions that are the same are told to be the same.
-/
namespace Go.Proofs.YthmdgbmodgfcmaaGreatDoor
open Go.RowKit

/-- Two boxes of three cells. -/
structure Box3 (W W0 : World) (x0 x1 x2 y0 y1 y2 : Value) : Prop where
  mv : Mv (fun _ => False) W W0
  a0 : W0.cell? ⟨W.heap.size, 0, none⟩ = some x0
  a1 : W0.cell? ⟨W.heap.size, 1, none⟩ = some x1
  a2 : W0.cell? ⟨W.heap.size, 2, none⟩ = some x2
  b0 : W0.cell? ⟨W.heap.size + 1, 0, none⟩ = some y0
  b1 : W0.cell? ⟨W.heap.size + 1, 1, none⟩ = some y1
  b2 : W0.cell? ⟨W.heap.size + 1, 2, none⟩ = some y2

theorem box_two (W : World) (A B : Obj) : Mv (fun _ => False) W ((W.alloc A).alloc B) ∧ ((W.alloc A).alloc B).heap[W.heap.size]? = some A ∧ ((W.alloc A).alloc B).heap[W.heap.size + 1]? = some B :=
  ⟨mv0 (Mv.alloc _ W A) (Mv.alloc _ _ B), (Mv.alloc (fun _ => False) (W.alloc A) B).heap (heap_alloc_new W A) id, by have := heap_alloc_new (W.alloc A) B; rwa [show (W.alloc A).heap.size = W.heap.size + 1 by simp] at this⟩

theorem box3 (W : World) (x0 x1 x2 y0 y1 y2 : Value) (t : TypeId) : Box3 W ((W.alloc (.cells #[x0, x1, x2] t)).alloc (.cells #[y0, y1, y2] t)) x0 x1 x2 y0 y1 y2 := by
  obtain ⟨hm, ha, hb⟩ := box_two W (.cells #[x0, x1, x2] t) (.cells #[y0, y1, y2] t)
  exact ⟨hm, by rw [cell_blk ha]; rfl, by rw [cell_blk ha]; rfl, by rw [cell_blk ha]; rfl, by rw [cell_blk hb]; rfl, by rw [cell_blk hb]; rfl, by rw [cell_blk hb]; rfl⟩

set_option maxHeartbeats 4000000 in
theorem sameRef_any (f : Nat) (hK : SameP f) (e4 e5 e6 : List (List D)) (h4 : e4.length ≤ 1000000 ∧ ∀ e ∈ e4, ∃ s, e = [D.str s]) (h5 : e5.length ≤ 1000000 ∧ ∀ e ∈ e5, wfA f e) (h6 : e6.length ≤ 1000000 ∧ ∀ e ∈ e6, ∃ b, e = [D.bit b]) (w : World) (a4 a5 a6 b4 b5 b6 : Value)
    (ha4 : DIs ty w (fun _ => True) a4 (.row .str e4)) (ha5 : DIs ty w (fun _ => True) a5 (.row .ast e5)) (ha6 : DIs ty w (fun _ => True) a6 (.row .bool e6))
    (hb4 : DIs ty w (fun _ => True) b4 (.row .str e4)) (hb5 : DIs ty w (fun _ => True) b5 (.row .ast e5)) (hb6 : DIs ty w (fun _ => True) b6 (.row .bool e6)) : Tru 25 w (.agg #[a4, a5, a6]) (.agg #[b4, b5, b6]) := by
  intro W hW
  have HX : Hid (Tru 16 W a4 b4) := texts_any e4 h4.1 h4.2 W a4 b4 (ha4.mv hW) (hb4.mv hW)
  have HY : Hid (Tru 26 W a5 b5) := sameAsts_any f hK e5 h5.1 h5.2 W a5 b5 (ha5.mv hW) (hb5.mv hW)
  obtain ⟨ao, ca, rfl, hea⟩ := rowd_form (ha6.mv hW)
  obtain ⟨bo, cb, rfl, heb⟩ := rowd_form (hb6.mv hW)
  obtain ⟨N, hN⟩ : ∃ N : Nat, e6.length = N := ⟨_, rfl⟩
  have HE : Hid (∀ i, i < N → ∃ ga gb s, ao = some ⟨ga, 0, none⟩ ∧ bo = some ⟨gb, 0, none⟩ ∧ W.cell? ⟨ga, i, none⟩ = some (.bool s) ∧ W.cell? ⟨gb, i, none⟩ = some (.bool s)) := fun i hi => by
    have hi' : i < e6.length := by omega
    obtain ⟨s, hs'⟩ := h6.2 e6[i] (List.getElem_mem hi')
    obtain ⟨ga, h1, h2⟩ := hea i _ (List.getElem?_eq_getElem hi')
    obtain ⟨gb, h3, h4⟩ := heb i _ (List.getElem?_eq_getElem hi')
    rw [hs'] at h2 h4
    have h5 := h2.bit0
    have h6 := h4.bit0
    rw [show i * ty.size .bool = i from Nat.mul_one i] at h5 h6
    exact ⟨ga, gb, _, h1, h3, h5, h6⟩
  rw [hN]
  have hle : (N : Int) ≤ 1000000 := by have := h6.1; omega
  clear hea heb ha4 ha5 ha6 hb4 hb5 hb6 h4 h5 h6 hN hW hK
  obtain ⟨W0, hW0⟩ : ∃ W0, (W.alloc (.cells #[a4, a5, .slice ao N ca] 38)).alloc (.cells #[b4, b5, .slice bo N cb] 38) = W0 := ⟨_, rfl⟩
  have hB := box3 W a4 a5 (.slice ao N ca) b4 b5 (.slice bo N cb) 38
  rw [hW0] at hB
  have HB : Hid (Box3 W W0 a4 a5 (.slice ao N ca) b4 b5 (.slice bo N cb)) := hB
  go_enter Tryz.func25, Tryz.ntmps25
  go_upto_region 1 with fail
  clear hW0 hB
  obtain ⟨d2, d5⟩ : W0.cell? ⟨W.heap.size, 2, none⟩ = some (.slice ao N ca) ∧ W0.cell? ⟨W.heap.size + 1, 2, none⟩ = some (.slice bo N cb) := ⟨HB.out.a2, HB.out.b2⟩
  go_wp2_with fail
  clear d2 d5
  go_loopw [5] (fun iv wr => ∃ i : Nat, i ≤ N ∧ iv = .int .i64 (i : Int) ∧ Hid (Mv (fun _ => False) W0 wr)) (fun iv _ => N - (intOf iv).toNat)
  case atStart => exact ⟨0, Nat.zero_le _, rfl, Mv.refl _ _⟩
  case round =>
    obtain ⟨i, hi, rfl, HM⟩ := hrel
    obtain ⟨d2, d5⟩ : wr.cell? ⟨W.heap.size, 2, none⟩ = some (.slice ao N ca) ∧ wr.cell? ⟨W.heap.size + 1, 2, none⟩ = some (.slice bo N cb) := ⟨cell_mv HM.out HB.out.a2 id, cell_mv HM.out HB.out.b2 id⟩
    by_cases hj : i < N
    · have hj' : (i : Int) < (N : Int) := by omega
      obtain ⟨ga, gb, s, rfl, rfl, h1, h2⟩ := HE.out i hj
      have h3 := cell_mv (mv0 HB.out.mv HM.out) h1 id
      have h4 := cell_mv (mv0 HB.out.mv HM.out) h2 id
      clear h1 h2 HE
      go_wp2_with fail
      go_quiet (fail)
      go_wp2_with fail
      go_roundw
      case rel => exact ⟨i + 1, hj, by go_num, by first | exact HM | exact mv0 HM.out (Mv.drewN _ _ _) | exact mv0 HM.out (Mv.drew _ _)⟩
      case measure => simp [intOf]; omega
    · have hj' : ¬ (i : Int) < (N : Int) := by omega
      clear HE
      obtain ⟨d0, d1, d3, d4⟩ : wr.cell? ⟨W.heap.size, 0, none⟩ = some a4 ∧ wr.cell? ⟨W.heap.size, 1, none⟩ = some a5 ∧ wr.cell? ⟨W.heap.size + 1, 0, none⟩ = some b4 ∧ wr.cell? ⟨W.heap.size + 1, 1, none⟩ = some b5 := ⟨cell_mv HM.out HB.out.a0 id, cell_mv HM.out HB.out.a1 id, cell_mv HM.out HB.out.b0 id, cell_mv HM.out HB.out.b1 id⟩
      go_wp2_with fail
      refine (HX.out _ (mv0 HB.out.mv HM.out)).mono ?_
      rintro e w1 ⟨rfl, hm1⟩
      have HM1 : Hid (Mv (fun _ => False) W0 w1) := mv0 HM.out hm1
      clear d0 d1 d2 d3 d4 d5 hm1 HX
      obtain ⟨d1, d4⟩ : w1.cell? ⟨W.heap.size, 1, none⟩ = some a5 ∧ w1.cell? ⟨W.heap.size + 1, 1, none⟩ = some b5 := ⟨cell_mv HM1.out HB.out.a1 id, cell_mv HM1.out HB.out.b1 id⟩
      go_wp2_with fail
      refine (HY.out _ (mv0 HB.out.mv HM1.out)).mono ?_
      rintro e w2 ⟨rfl, hm2⟩
      have HM2 : Hid (Mv (fun _ => False) W w2) := mv0 (mv0 HB.out.mv HM1.out) hm2
      clear hm2 HY d1 d4
      go_wp2_with fail
      go_ret
      exact ⟨rfl, HM2.out⟩

end Go.Proofs.YthmdgbmodgfcmaaGreatDoor
/-
  Arguments that are the same are told to be the same.
-/
namespace Go.Proofs.YthmdgbmodgfcmaaGreatDoor
open Go.RowKit

set_option maxHeartbeats 4000000 in
theorem sameArgs_any (f : Nat) (hK : SameP f) (els : List (List D)) (hl : els.length ≤ 1000000) (hs : ∀ e ∈ els, ∃ m a r, e = D.bit m :: D.bit a :: r ∧ wfA f r) (w : World) (a b : Value) (ha : DIs ty w (fun _ => True) a (.row .arg els)) (hb : DIs ty w (fun _ => True) b (.row .arg els)) : Tru 27 w a b := by
  intro W hW
  obtain ⟨ao, ca, rfl, hea⟩ := rowd_form (ha.mv hW)
  obtain ⟨bo, cb, rfl, heb⟩ := rowd_form (hb.mv hW)
  obtain ⟨N, hN⟩ : ∃ N : Nat, els.length = N := ⟨_, rfl⟩
  have HE : Hid (∀ i, i < N → ∃ ga gb m n a0 a1 a2 a3 a4 a5 a6 a7 a8 b0 b1 b2 b3 b4 b5 b6 b7 b8, ao = some ⟨ga, 0, none⟩ ∧ bo = some ⟨gb, 0, none⟩ ∧ W.cell? ⟨ga, i * 11, none⟩ = some (.bool m) ∧ W.cell? ⟨gb, i * 11, none⟩ = some (.bool m) ∧ W.cell? ⟨ga, i * 11 + 1, none⟩ = some (.bool n) ∧ W.cell? ⟨gb, i * 11 + 1, none⟩ = some (.bool n) ∧ Cells9 W ga (i * 11 + 2) a0 a1 a2 a3 a4 a5 a6 a7 a8 ∧ Cells9 W gb (i * 11 + 2) b0 b1 b2 b3 b4 b5 b6 b7 b8 ∧
      Tru 12 W (.agg #[a0, a1, a2, a3, a4, a5, a6, a7, a8]) (.agg #[b0, b1, b2, b3, b4, b5, b6, b7, b8])) := fun i hi => by
    have hi' : i < els.length := by omega
    obtain ⟨m, n, r, he, hw⟩ := hs els[i] (List.getElem_mem hi')
    obtain ⟨ga, h1, h2⟩ := hea i _ (List.getElem?_eq_getElem hi')
    obtain ⟨gb, h3, h4⟩ := heb i _ (List.getElem?_eq_getElem hi')
    rw [he] at h2 h4
    have m1 := h2.bit0
    have m2 := h4.bit0
    have n1 := (h2.drop 1).bit0
    have n2 := (h4.drop 1).bit0
    obtain ⟨a0, a1, a2, a3, a4, a5, a6, a7, a8, hac, hai⟩ := (h2.drop 2).nine (wfA_len hw)
    obtain ⟨b0, b1, b2, b3, b4, b5, b6, b7, b8, hbc, hbi⟩ := (h4.drop 2).nine (wfA_len hw)
    exact ⟨ga, gb, m, n, a0, a1, a2, a3, a4, a5, a6, a7, a8, b0, b1, b2, b3, b4, b5, b6, b7, b8, h1, h3, m1, m2, n1, n2, hac, hbc, hK _ hw _ _ _ hai hbi⟩
  rw [hN]
  have hle : (N : Int) ≤ 1000000 := by omega
  clear hea heb ha hb hs hl hN hW hK
  go_enter Tryz.func27, Tryz.ntmps27
  go_wp2_with fail
  go_loopw [5] (fun iv wr => ∃ i : Nat, i ≤ N ∧ iv = .int .i64 (i : Int) ∧ Hid (Mv (fun _ => False) W wr)) (fun iv _ => N - (intOf iv).toNat)
  case atStart => exact ⟨0, Nat.zero_le _, rfl, Mv.refl _ _⟩
  case round =>
    obtain ⟨i, hi, rfl, HM⟩ := hrel
    by_cases hj : i < N
    · have hj' : (i : Int) < (N : Int) := by omega
      obtain ⟨ga, gb, m, n, a0, a1, a2, a3, a4, a5, a6, a7, a8, b0, b1, b2, b3, b4, b5, b6, b7, b8, rfl, rfl, m1, m2, n1, n2, h1, h2, hT⟩ := HE.out i hj
      obtain ⟨p0, p1, p2, p3, p4, p5, p6, p7, p8⟩ := h1.mv HM.out
      obtain ⟨q0, q1, q2, q3, q4, q5, q6, q7, q8⟩ := h2.mv HM.out
      have HT : Hid (Tru 12 W (.agg #[a0, a1, a2, a3, a4, a5, a6, a7, a8]) (.agg #[b0, b1, b2, b3, b4, b5, b6, b7, b8])) := hT
      have HX : Hid ((W.cell? ⟨ga, i * 11, none⟩ = some (.bool m) ∧ W.cell? ⟨gb, i * 11, none⟩ = some (.bool m)) ∧ W.cell? ⟨ga, i * 11 + 1, none⟩ = some (.bool n) ∧ W.cell? ⟨gb, i * 11 + 1, none⟩ = some (.bool n)) := ⟨⟨m1, m2⟩, n1, n2⟩
      clear h1 h2 HE hT m1 m2 n1 n2
      go_wp2_with fail
      go_region_with (go_at_call 12; refine (HT.out _ (mv0 HM.out (by repeat (first | exact Mv.refl _ _ | refine mv0 ?_ (Mv.drew _ _) | refine mv0 ?_ (Mv.drewN _ _ _))))).mono ?_; rintro e w1 ⟨rfl, hm1⟩; have HM1 : Hid (Mv (fun _ => False) W w1) := mv0 (mv0 HM.out (by repeat (first | exact Mv.refl _ _ | refine mv0 ?_ (Mv.drew _ _) | refine mv0 ?_ (Mv.drewN _ _ _)))) hm1; clear hm1)
      all_goals have m1 := cell_mv HM1.out HX.out.1.1 id
      all_goals have m2 := cell_mv HM1.out HX.out.1.2 id
      all_goals have n1 := cell_mv HM1.out HX.out.2.1 id
      all_goals have n2 := cell_mv HM1.out HX.out.2.2 id
      all_goals clear p0 p1 p2 p3 p4 p5 p6 p7 p8 q0 q1 q2 q3 q4 q5 q6 q7 q8
      all_goals cases m <;> cases n
      all_goals go_wp2_with fail
      all_goals go_quiet (fail)
      all_goals go_wp2_with fail
      all_goals go_roundw
      all_goals first
        | exact ⟨i + 1, hj, by go_num, by first | exact HM1 | exact mv0 HM1.out (Mv.drewN _ _ _) | exact mv0 HM1.out (Mv.drew _ _)⟩
        | (simp [intOf]; omega)
    · have hj' : ¬ (i : Int) < (N : Int) := by omega
      clear HE
      go_wp2_with fail
      go_ret
      exact ⟨rfl, HM.out⟩

end Go.Proofs.YthmdgbmodgfcmaaGreatDoor
/-
  Expressions that are the same are told to be the same.
-/
namespace Go.Proofs.YthmdgbmodgfcmaaGreatDoor
open Go.RowKit

/-- Two boxes of nine cells. -/
structure Box9 (W W0 : World) (x0 x1 x2 x3 x4 x5 x6 x7 x8 y0 y1 y2 y3 y4 y5 y6 y7 y8 : Value) : Prop where
  mv : Mv (fun _ => False) W W0
  a : Cells9 W0 W.heap.size 0 x0 x1 x2 x3 x4 x5 x6 x7 x8
  b : Cells9 W0 (W.heap.size + 1) 0 y0 y1 y2 y3 y4 y5 y6 y7 y8

theorem cells9_blk {w : World} {g : Nat} {t : TypeId} {x0 x1 x2 x3 x4 x5 x6 x7 x8 : Value} (h : w.heap[g]? = some (.cells #[x0, x1, x2, x3, x4, x5, x6, x7, x8] t (0, 0))) : Cells9 w g 0 x0 x1 x2 x3 x4 x5 x6 x7 x8 :=
  ⟨by rw [cell_blk h]; rfl, by rw [cell_blk h]; rfl, by rw [cell_blk h]; rfl, by rw [cell_blk h]; rfl, by rw [cell_blk h]; rfl, by rw [cell_blk h]; rfl, by rw [cell_blk h]; rfl, by rw [cell_blk h]; rfl, by rw [cell_blk h]; rfl⟩

theorem box9 (W : World) (x0 x1 x2 x3 x4 x5 x6 x7 x8 y0 y1 y2 y3 y4 y5 y6 y7 y8 : Value) (t : TypeId) :
    Box9 W ((W.alloc (.cells #[x0, x1, x2, x3, x4, x5, x6, x7, x8] t)).alloc (.cells #[y0, y1, y2, y3, y4, y5, y6, y7, y8] t)) x0 x1 x2 x3 x4 x5 x6 x7 x8 y0 y1 y2 y3 y4 y5 y6 y7 y8 := by
  obtain ⟨hm, ha, hb⟩ := box_two W (.cells #[x0, x1, x2, x3, x4, x5, x6, x7, x8] t) (.cells #[y0, y1, y2, y3, y4, y5, y6, y7, y8] t)
  exact ⟨hm, cells9_blk ha, cells9_blk hb⟩

set_option maxHeartbeats 8000000 in
theorem SameAst_walk (n0 n1 : Int) (s2 s3 : ByteArray) (a4 a5 a6 a7 a8 b4 b5 b6 b7 b8 : Value) (W : World) (hR : Tru 25 W (.agg #[a4, a5, a6]) (.agg #[b4, b5, b6])) (hK : Tru 26 W a7 b7) (hA : Tru 27 W a8 b8) :
    Calls Tryz.prog 12 #[.agg #[.int .i64 n0, .int .i64 n1, .string s2, .string s3, a4, a5, a6, a7, a8], .agg #[.int .i64 n0, .int .i64 n1, .string s2, .string s3, b4, b5, b6, b7, b8]] W fun e w' => e = .returned (.bool true) ∧ Mv (fun _ => False) W w' := by
  have HR : Hid (Tru 25 W (.agg #[a4, a5, a6]) (.agg #[b4, b5, b6])) := hR
  have HK : Hid (Tru 26 W a7 b7) := hK
  have HA : Hid (Tru 27 W a8 b8) := hA
  clear hR hK hA
  obtain ⟨W0, hW0⟩ : ∃ W0, (W.alloc (.cells #[.int .i64 n0, .int .i64 n1, .string s2, .string s3, a4, a5, a6, a7, a8] 41)).alloc (.cells #[.int .i64 n0, .int .i64 n1, .string s2, .string s3, b4, b5, b6, b7, b8] 41) = W0 := ⟨_, rfl⟩
  have hB := box9 W (.int .i64 n0) (.int .i64 n1) (.string s2) (.string s3) a4 a5 a6 a7 a8 (.int .i64 n0) (.int .i64 n1) (.string s2) (.string s3) b4 b5 b6 b7 b8 41
  rw [hW0] at hB
  have HB : Hid (Box9 W W0 (.int .i64 n0) (.int .i64 n1) (.string s2) (.string s3) a4 a5 a6 a7 a8 (.int .i64 n0) (.int .i64 n1) (.string s2) (.string s3) b4 b5 b6 b7 b8) := hB
  go_enter Tryz.func12, Tryz.ntmps12
  go_upto_region 1 with fail
  clear hW0 hB
  obtain ⟨p0, p1, p2, p3, p4, p5, p6, p7, p8⟩ := HB.out.a
  obtain ⟨q0, q1, q2, q3, q4, q5, q6, q7, q8⟩ := HB.out.b
  simp only [Nat.zero_add] at p1 p2 p3 p4 p5 p6 p7 p8 q1 q2 q3 q4 q5 q6 q7 q8
  go_wp2_with fail
  refine (HR.out _ HB.out.mv).mono ?_
  rintro e w1 ⟨rfl, hm1⟩
  replace p7 := cell_mv hm1 p7 id
  replace p8 := cell_mv hm1 p8 id
  replace q7 := cell_mv hm1 q7 id
  replace q8 := cell_mv hm1 q8 id
  have HM1 : Hid (Mv (fun _ => False) W w1) := mv0 HB.out.mv hm1
  clear hm1 p0 p1 p2 p3 p4 p5 p6 q0 q1 q2 q3 q4 q5 q6
  go_wp2_with fail
  refine (HK.out _ HM1.out).mono ?_
  rintro e w2 ⟨rfl, hm2⟩
  replace p8 := cell_mv hm2 p8 id
  replace q8 := cell_mv hm2 q8 id
  have HM2 : Hid (Mv (fun _ => False) W w2) := mv0 HM1.out hm2
  clear hm2 p7 q7
  go_wp2_with fail
  refine (HA.out _ HM2.out).mono ?_
  rintro e w3 ⟨rfl, hm3⟩
  have HM3 : Hid (Mv (fun _ => False) W w3) := mv0 HM2.out hm3
  clear hm3 p8 q8
  go_wp2_with fail
  go_ret
  exact ⟨rfl, HM3.out⟩

theorem SameP.next {f : Nat} (hK : SameP f) : SameP (f + 1) := by
  intro ds hw w a b ha hb W hW
  obtain ⟨n0, n1, s2, s3, e4, e5, e6, e7, e8, rfl, h4, h5, h6, h7, h8⟩ := hw
  obtain ⟨a0, a1, a2, a3, a4, a5, a6, a7, a8, rfl, hA⟩ := ha.mv hW
  obtain ⟨b0, b1, b2, b3, b4, b5, b6, b7, b8, rfl, hB⟩ := hb.mv hW
  obtain ⟨u0, x0, y0⟩ := hA 0 _ rfl
  obtain ⟨u1, x1, y1⟩ := hA 1 _ rfl
  obtain ⟨u2, x2, y2⟩ := hA 2 _ rfl
  obtain ⟨u3, x3, y3⟩ := hA 3 _ rfl
  obtain ⟨u4, x4, y4⟩ := hA 4 _ rfl
  obtain ⟨u5, x5, y5⟩ := hA 5 _ rfl
  obtain ⟨u6, x6, y6⟩ := hA 6 _ rfl
  obtain ⟨u7, x7, y7⟩ := hA 7 _ rfl
  obtain ⟨u8, x8, y8⟩ := hA 8 _ rfl
  cases x0; cases x1; cases x2; cases x3; cases x4; cases x5; cases x6; cases x7; cases x8
  obtain ⟨v0, z0, t0⟩ := hB 0 _ rfl
  obtain ⟨v1, z1, t1⟩ := hB 1 _ rfl
  obtain ⟨v2, z2, t2⟩ := hB 2 _ rfl
  obtain ⟨v3, z3, t3⟩ := hB 3 _ rfl
  obtain ⟨v4, z4, t4⟩ := hB 4 _ rfl
  obtain ⟨v5, z5, t5⟩ := hB 5 _ rfl
  obtain ⟨v6, z6, t6⟩ := hB 6 _ rfl
  obtain ⟨v7, z7, t7⟩ := hB 7 _ rfl
  obtain ⟨v8, z8, t8⟩ := hB 8 _ rfl
  cases z0; cases z1; cases z2; cases z3; cases z4; cases z5; cases z6; cases z7; cases z8
  cases y0; cases y1; cases y2; cases y3; cases t0; cases t1; cases t2; cases t3
  exact SameAst_walk n0 n1 _ _ _ _ _ _ _ _ _ _ _ _ W (sameRef_any f hK e4 e5 e6 h4 h5 h6 W _ _ _ _ _ _ y4 y5 y6 t4 t5 t6) (sameAsts_any f hK e7 h7.1 h7.2 W _ _ y7 t7) (sameArgs_any f hK e8 h8.1 h8.2 W _ _ y8 t8)

theorem same_all : ∀ f, SameP f
  | 0 => fun _ h => h.elim
  | f + 1 => (same_all f).next

end Go.Proofs.YthmdgbmodgfcmaaGreatDoor
