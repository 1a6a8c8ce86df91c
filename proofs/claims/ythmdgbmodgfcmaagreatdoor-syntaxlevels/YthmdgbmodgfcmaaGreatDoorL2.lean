/-
  SBoxes, SLev, SLevV0, SLevV1, SLevV2, SLevV3, SLevV4, SLevV5, SLevVals.
-/
import Derived.Test.YthmdgbmodgfcmaaGreatDoorL1
import Derived.Test.YthmdgbmodgfcmaaGreatDoorM46
import Derived.Test.YthmdgbmodgfcmaaGreatDoorM47
import Derived.Test.YthmdgbmodgfcmaaGreatDoorM48
/-
  What a region leaves that reads an expression into two boxes, in whatever order the boxes are made.
-/
namespace Go.Proofs.YthmdgbmodgfcmaaGreatDoor
open Go.RowKit

theorem AIs.of_blocks {w : World} {B : Nat} {v : Value} {ds : List D} (h : AstV w B v ds) (Y : World) (hY : ∀ g, B ≤ g → g < w.heap.size → Y.heap[g]? = w.heap[g]?) : AIs Y v ds := by
  obtain ⟨n0, n1, s2, s3, v4, v5, v6, v7, v8, rfl, _, hd⟩ := h
  refine ⟨.int .i64 n0, .int .i64 n1, .string s2, .string s3, v4, v5, v6, v7, v8, rfl, fun i d hi => ?_⟩
  obtain ⟨u, h1, h2⟩ := hd i d hi
  exact ⟨u, by simpa using h1, (h2.kept hY).mono (fun _ _ => trivial)⟩

/-- What Expr gives of a text that is read as ds. -/
def ExprIs (s : ByteArray) (ds : List D) : Prop := ∀ w, G w → TN w → Calls Tryz.prog 11 #[.string s] w fun e w' => ∃ (n0 n1 : Int) (s2 s3 : ByteArray) (o4 o5 o6 o7 o8 : Option Addr) (l4 l5 l6 l7 l8 c4 c5 c6 c7 c8 : Nat), e = .returned (.tuple #[.agg #[.int .i64 n0, .int .i64 n1, .string s2, .string s3, .slice o4 l4 c4, .slice o5 l5 c5, .slice o6 l6 c6, .slice o7 l7 c7, .slice o8 l8 c8], .agg #[.int .i64 0, .int .i64 0]]) ∧ Mv (fun _ => False) w w' ∧ ∀ Y : World, (∀ g, w.heap.size ≤ g → g < w'.heap.size → Y.heap[g]? = w'.heap[g]?) → AIs Y (.agg #[.int .i64 n0, .int .i64 n1, .string s2, .string s3, .slice o4 l4 c4, .slice o5 l5 c5, .slice o6 l6 c6, .slice o7 l7 c7, .slice o8 l8 c8]) ds

theorem exprIs_of {s : ByteArray} {ds : List D} (f : Nat) (hf : f ≤ 1000000) (hr : readV .expr shAst (dep f .ast) f (bytesOf s) = some (.ok ds)) : ExprIs s ds := by
  intro w hG hT
  refine (Expr_any s f hf _ hr w hG hT).mono ?_
  rintro e w' ⟨hm, v, rfl, hv⟩
  obtain ⟨n0, n1, s2, s3, v4, v5, v6, v7, v8, rfl, hsh, hd⟩ := id hv
  obtain ⟨k0, k1, k2, k3, r4, r5, r6, r7, r8, rfl⟩ := shAst_some hsh
  obtain ⟨u4, h4, e4⟩ := hd 4 _ rfl
  obtain ⟨u5, h5, e5⟩ := hd 5 _ rfl
  obtain ⟨u6, h6, e6⟩ := hd 6 _ rfl
  obtain ⟨u7, h7, e7⟩ := hd 7 _ rfl
  obtain ⟨u8, h8, e8⟩ := hd 8 _ rfl
  cases h4; cases h5; cases h6; cases h7; cases h8
  obtain ⟨o4, l4, q4, rfl⟩ := e4.slice
  obtain ⟨o5, l5, q5, rfl⟩ := e5.slice
  obtain ⟨o6, l6, q6, rfl⟩ := e6.slice
  obtain ⟨o7, l7, q7, rfl⟩ := e7.slice
  obtain ⟨o8, l8, q8, rfl⟩ := e8.slice
  exact ⟨_, _, _, _, _, _, _, _, _, _, _, _, _, _, _, _, _, _, _, rfl, hm, fun Y hY => AIs.of_blocks hv Y hY⟩

/-- Both boxes are made, the expression is read. -/
structure Ready (W X : World) (p q : Nat) (v0 v1 v2 v3 v4 v5 v6 v7 v8 : Value) (ds : List D) : Prop where
  a : X.heap[p]? = some A0
  m : X.heap[q]? = some M0
  hp : W.heap.size ≤ p
  hq : W.heap.size ≤ q
  mv : Mv (fun _ => False) W X
  ds : ∀ Y : World, (∀ g, g ≠ p → g ≠ q → g < X.heap.size → Y.heap[g]? = X.heap[g]?) → AIs Y (.agg #[v0, v1, v2, v3, v4, v5, v6, v7, v8]) ds

theorem ready_of {W X0 w2 X : World} {p q : Nat} {v0 v1 v2 v3 v4 v5 v6 v7 v8 : Value} {ds : List D} (h0 : Mv (fun _ => False) W X0) (h2 : Mv (fun _ => False) X0 w2) (h3 : Mv (fun _ => False) w2 X) (ha : X.heap[p]? = some A0) (hm : X.heap[q]? = some M0) (hp : W.heap.size ≤ p) (hq : W.heap.size ≤ q) (hp2 : p < X0.heap.size ∨ w2.heap.size ≤ p) (hq2 : q < X0.heap.size ∨ w2.heap.size ≤ q)
    (hds : ∀ Y : World, (∀ g, X0.heap.size ≤ g → g < w2.heap.size → Y.heap[g]? = w2.heap[g]?) → AIs Y (.agg #[v0, v1, v2, v3, v4, v5, v6, v7, v8]) ds) : Ready W X p q v0 v1 v2 v3 v4 v5 v6 v7 v8 ds :=
  ⟨ha, hm, hp, hq, mv0 (mv0 h0 h2) h3, fun Y hY => hds Y (fun g h4 h5 => (hY g (by omega) (by omega) (Nat.lt_of_lt_of_le h5 h3.size)).trans (h3.block g h5 id))⟩

section
variable {W w2 : World} {v0 v1 v2 v3 v4 v5 v6 v7 v8 : Value} {ds : List D}

theorem ready_ceM (h2 : Mv (fun _ => False) W.drew w2) (hds : ∀ Y : World, (∀ g, W.drew.heap.size ≤ g → g < w2.heap.size → Y.heap[g]? = w2.heap[g]?) → AIs Y (.agg #[v0, v1, v2, v3, v4, v5, v6, v7, v8]) ds) : Ready W ((w2.alloc A0).alloc M0) w2.heap.size (w2.heap.size + 1) v0 v1 v2 v3 v4 v5 v6 v7 v8 ds :=
  have hb := box_two w2 A0 M0
  have hs : W.heap.size ≤ w2.heap.size := h2.size
  ready_of (Mv.drew _ _) h2 hb.1 hb.2.1 hb.2.2 hs (by omega) (.inr (Nat.le_refl _)) (.inr (Nat.le_succ _)) hds
theorem ready_cMe (h2 : Mv (fun _ => False) W.drew w2) (hds : ∀ Y : World, (∀ g, W.drew.heap.size ≤ g → g < w2.heap.size → Y.heap[g]? = w2.heap[g]?) → AIs Y (.agg #[v0, v1, v2, v3, v4, v5, v6, v7, v8]) ds) : Ready W ((w2.alloc M0).alloc A0) (w2.heap.size + 1) w2.heap.size v0 v1 v2 v3 v4 v5 v6 v7 v8 ds :=
  have hb := box_two w2 M0 A0
  have hs : W.heap.size ≤ w2.heap.size := h2.size
  ready_of (Mv.drew _ _) h2 hb.1 hb.2.2 hb.2.1 (by omega) hs (.inr (Nat.le_succ _)) (.inr (Nat.le_refl _)) hds
theorem ready_ecM (h2 : Mv (fun _ => False) (W.alloc A0).drew w2) (hds : ∀ Y : World, (∀ g, (W.alloc A0).drew.heap.size ≤ g → g < w2.heap.size → Y.heap[g]? = w2.heap[g]?) → AIs Y (.agg #[v0, v1, v2, v3, v4, v5, v6, v7, v8]) ds) : Ready W (w2.alloc M0) W.heap.size w2.heap.size v0 v1 v2 v3 v4 v5 v6 v7 v8 ds :=
  have hz : (W.alloc A0).drew.heap.size = W.heap.size + 1 := by show (W.alloc A0).heap.size = _; simp
  have hs : W.heap.size ≤ w2.heap.size := by have := h2.size; omega
  ready_of (mv0 (Mv.alloc _ W A0) (Mv.drew _ _)) h2 (Mv.alloc _ w2 M0) ((Mv.alloc (fun _ => False) w2 M0).heap (h2.heap (heap_alloc_new W A0) id) id) (heap_alloc_new w2 M0) (Nat.le_refl _) hs (.inl (by omega)) (.inr (Nat.le_refl _)) hds
theorem ready_Mce (h2 : Mv (fun _ => False) (W.alloc M0).drew w2) (hds : ∀ Y : World, (∀ g, (W.alloc M0).drew.heap.size ≤ g → g < w2.heap.size → Y.heap[g]? = w2.heap[g]?) → AIs Y (.agg #[v0, v1, v2, v3, v4, v5, v6, v7, v8]) ds) : Ready W (w2.alloc A0) w2.heap.size W.heap.size v0 v1 v2 v3 v4 v5 v6 v7 v8 ds :=
  have hz : (W.alloc M0).drew.heap.size = W.heap.size + 1 := by show (W.alloc M0).heap.size = _; simp
  have hs : W.heap.size ≤ w2.heap.size := by have := h2.size; omega
  ready_of (mv0 (Mv.alloc _ W M0) (Mv.drew _ _)) h2 (Mv.alloc _ w2 A0) (heap_alloc_new w2 A0) ((Mv.alloc (fun _ => False) w2 A0).heap (h2.heap (heap_alloc_new W M0) id) id) hs (Nat.le_refl _) (.inr (Nat.le_refl _)) (.inl (by omega)) hds
theorem ready_eMc (h2 : Mv (fun _ => False) ((W.alloc A0).alloc M0).drew w2) (hds : ∀ Y : World, (∀ g, ((W.alloc A0).alloc M0).drew.heap.size ≤ g → g < w2.heap.size → Y.heap[g]? = w2.heap[g]?) → AIs Y (.agg #[v0, v1, v2, v3, v4, v5, v6, v7, v8]) ds) : Ready W w2 W.heap.size (W.heap.size + 1) v0 v1 v2 v3 v4 v5 v6 v7 v8 ds :=
  have hb := box_two W A0 M0
  have hz : ((W.alloc A0).alloc M0).drew.heap.size = W.heap.size + 2 := by show ((W.alloc A0).alloc M0).heap.size = _; simp
  ready_of (mv0 hb.1 (Mv.drew _ _)) h2 (Mv.refl _ _) (h2.heap hb.2.1 id) (h2.heap hb.2.2 id) (Nat.le_refl _) (Nat.le_succ _) (.inl (by omega)) (.inl (by omega)) hds
theorem ready_Mec (h2 : Mv (fun _ => False) ((W.alloc M0).alloc A0).drew w2) (hds : ∀ Y : World, (∀ g, ((W.alloc M0).alloc A0).drew.heap.size ≤ g → g < w2.heap.size → Y.heap[g]? = w2.heap[g]?) → AIs Y (.agg #[v0, v1, v2, v3, v4, v5, v6, v7, v8]) ds) : Ready W w2 (W.heap.size + 1) W.heap.size v0 v1 v2 v3 v4 v5 v6 v7 v8 ds :=
  have hb := box_two W M0 A0
  have hz : ((W.alloc M0).alloc A0).drew.heap.size = W.heap.size + 2 := by show ((W.alloc M0).alloc A0).heap.size = _; simp
  ready_of (mv0 hb.1 (Mv.drew _ _)) h2 (Mv.refl _ _) (h2.heap hb.2.2 id) (h2.heap hb.2.1 id) (Nat.le_succ _) (Nat.le_refl _) (.inl (by omega)) (.inl (by omega)) hds
end

abbrev bxw9 (X : World) (p : Nat) (v0 v1 v2 v3 v4 v5 v6 v7 v8 : Value) : World := ((((((((X.setCell ⟨p, 0, none⟩ v0).setCell ⟨p, 1, none⟩ v1).setCell ⟨p, 2, none⟩ v2).setCell ⟨p, 3, none⟩ v3).setCell ⟨p, 4, none⟩ v4).setCell ⟨p, 5, none⟩ v5).setCell ⟨p, 6, none⟩ v6).setCell ⟨p, 7, none⟩ v7).setCell ⟨p, 8, none⟩ v8
abbrev bxw2 (X : World) (q : Nat) (x y : Value) : World := (X.setCell ⟨q, 0, none⟩ x).setCell ⟨q, 1, none⟩ y

theorem bxw9_blk {X : World} {p : Nat} (v0 v1 v2 v3 v4 v5 v6 v7 v8 : Value) (h : X.heap[p]? = some A0) : (bxw9 X p v0 v1 v2 v3 v4 v5 v6 v7 v8).heap[p]? = some (.cells #[v0, v1, v2, v3, v4, v5, v6, v7, v8] 41 (0, 0)) := by
  have h0 : (X.setCell ⟨p, 0, none⟩ v0).heap[p]? = some (.cells #[v0, .int .i64 0, .string ⟨#[]⟩, .string ⟨#[]⟩, S0, S0, S0, S0, S0] 41 (0, 0)) := setCell_blk h
  have h1 : ((X.setCell ⟨p, 0, none⟩ v0).setCell ⟨p, 1, none⟩ v1).heap[p]? = some (.cells #[v0, v1, .string ⟨#[]⟩, .string ⟨#[]⟩, S0, S0, S0, S0, S0] 41 (0, 0)) := setCell_blk h0
  have h2 : (((X.setCell ⟨p, 0, none⟩ v0).setCell ⟨p, 1, none⟩ v1).setCell ⟨p, 2, none⟩ v2).heap[p]? = some (.cells #[v0, v1, v2, .string ⟨#[]⟩, S0, S0, S0, S0, S0] 41 (0, 0)) := setCell_blk h1
  have h3 : ((((X.setCell ⟨p, 0, none⟩ v0).setCell ⟨p, 1, none⟩ v1).setCell ⟨p, 2, none⟩ v2).setCell ⟨p, 3, none⟩ v3).heap[p]? = some (.cells #[v0, v1, v2, v3, S0, S0, S0, S0, S0] 41 (0, 0)) := setCell_blk h2
  have h4 : (((((X.setCell ⟨p, 0, none⟩ v0).setCell ⟨p, 1, none⟩ v1).setCell ⟨p, 2, none⟩ v2).setCell ⟨p, 3, none⟩ v3).setCell ⟨p, 4, none⟩ v4).heap[p]? = some (.cells #[v0, v1, v2, v3, v4, S0, S0, S0, S0] 41 (0, 0)) := setCell_blk h3
  have h5 : ((((((X.setCell ⟨p, 0, none⟩ v0).setCell ⟨p, 1, none⟩ v1).setCell ⟨p, 2, none⟩ v2).setCell ⟨p, 3, none⟩ v3).setCell ⟨p, 4, none⟩ v4).setCell ⟨p, 5, none⟩ v5).heap[p]? = some (.cells #[v0, v1, v2, v3, v4, v5, S0, S0, S0] 41 (0, 0)) := setCell_blk h4
  have h6 : (((((((X.setCell ⟨p, 0, none⟩ v0).setCell ⟨p, 1, none⟩ v1).setCell ⟨p, 2, none⟩ v2).setCell ⟨p, 3, none⟩ v3).setCell ⟨p, 4, none⟩ v4).setCell ⟨p, 5, none⟩ v5).setCell ⟨p, 6, none⟩ v6).heap[p]? = some (.cells #[v0, v1, v2, v3, v4, v5, v6, S0, S0] 41 (0, 0)) := setCell_blk h5
  have h7 : ((((((((X.setCell ⟨p, 0, none⟩ v0).setCell ⟨p, 1, none⟩ v1).setCell ⟨p, 2, none⟩ v2).setCell ⟨p, 3, none⟩ v3).setCell ⟨p, 4, none⟩ v4).setCell ⟨p, 5, none⟩ v5).setCell ⟨p, 6, none⟩ v6).setCell ⟨p, 7, none⟩ v7).heap[p]? = some (.cells #[v0, v1, v2, v3, v4, v5, v6, v7, S0] 41 (0, 0)) := setCell_blk h6
  have h8 : (((((((((X.setCell ⟨p, 0, none⟩ v0).setCell ⟨p, 1, none⟩ v1).setCell ⟨p, 2, none⟩ v2).setCell ⟨p, 3, none⟩ v3).setCell ⟨p, 4, none⟩ v4).setCell ⟨p, 5, none⟩ v5).setCell ⟨p, 6, none⟩ v6).setCell ⟨p, 7, none⟩ v7).setCell ⟨p, 8, none⟩ v8).heap[p]? = some (.cells #[v0, v1, v2, v3, v4, v5, v6, v7, v8] 41 (0, 0)) := setCell_blk h7
  exact h8
theorem bxw9_far {X : World} {p g : Nat} (v0 v1 v2 v3 v4 v5 v6 v7 v8 : Value) (h : g ≠ p) : (bxw9 X p v0 v1 v2 v3 v4 v5 v6 v7 v8).heap[g]? = X.heap[g]? :=
  (set_other h).trans ((set_other h).trans ((set_other h).trans ((set_other h).trans ((set_other h).trans ((set_other h).trans ((set_other h).trans ((set_other h).trans (set_other h))))))))
theorem bxw9_mv {W X : World} {p : Nat} (v0 v1 v2 v3 v4 v5 v6 v7 v8 : Value) (h : Mv (fun _ => False) W X) (hp : W.heap.size ≤ p) : Mv (fun _ => False) W (bxw9 X p v0 v1 v2 v3 v4 v5 v6 v7 v8) :=
  ((((((((h.old ⟨p, 0, none⟩ v0 hp).old ⟨p, 1, none⟩ v1 hp).old ⟨p, 2, none⟩ v2 hp).old ⟨p, 3, none⟩ v3 hp).old ⟨p, 4, none⟩ v4 hp).old ⟨p, 5, none⟩ v5 hp).old ⟨p, 6, none⟩ v6 hp).old ⟨p, 7, none⟩ v7 hp).old ⟨p, 8, none⟩ v8 hp
theorem bxw2_far {X : World} {p g : Nat} (x y : Value) (h : g ≠ p) : (bxw2 X p x y).heap[g]? = X.heap[g]? := (set_other h).trans (set_other h)
theorem bxw2_mv {W X : World} {p : Nat} (x y : Value) (h : Mv (fun _ => False) W X) (hp : W.heap.size ≤ p) : Mv (fun _ => False) W (bxw2 X p x y) := (h.old ⟨p, 0, none⟩ x hp).old ⟨p, 1, none⟩ y hp

theorem Ready.ne {W X : World} {p q : Nat} {v0 v1 v2 v3 v4 v5 v6 v7 v8 : Value} {ds : List D} (h : Ready W X p q v0 v1 v2 v3 v4 v5 v6 v7 v8 ds) : p ≠ q := by
  rintro rfl
  have := h.a.symm.trans h.m
  simp at this

/-- What a region that reads an expression leaves: the expression and the mishap in two boxes. -/
def After (W : World) (ds : List D) (x y : Value) (wx : World) : Prop := ∃ p q v0 v1 v2 v3 v4 v5 v6 v7 v8, x = .pointer (some ⟨p, 0, none⟩) ∧ y = .pointer (some ⟨q, 0, none⟩) ∧ Mv (fun _ => False) W wx ∧ Cells9 wx p 0 v0 v1 v2 v3 v4 v5 v6 v7 v8 ∧ wx.cell? ⟨q, 0, none⟩ = some (.int .i64 0) ∧ AIs wx (.agg #[v0, v1, v2, v3, v4, v5, v6, v7, v8]) ds

theorem Ready.after {W X Y : World} {p q : Nat} {v0 v1 v2 v3 v4 v5 v6 v7 v8 : Value} {ds : List D} (h : Ready W X p q v0 v1 v2 v3 v4 v5 v6 v7 v8 ds) (hY : bxw9 X p v0 v1 v2 v3 v4 v5 v6 v7 v8 = Y) : After W ds (.pointer (some ⟨p, 0, none⟩)) (.pointer (some ⟨q, 0, none⟩)) (bxw2 Y q (.int .i64 0) (.int .i64 0)) := by
  have hne := h.ne
  have h9 : Y.heap[p]? = some (.cells #[v0, v1, v2, v3, v4, v5, v6, v7, v8] 41 (0, 0)) := by rw [← hY]; exact bxw9_blk _ _ _ _ _ _ _ _ _ h.a
  have hm : Y.heap[q]? = some M0 := by rw [← hY]; exact (bxw9_far _ _ _ _ _ _ _ _ _ (Ne.symm hne)).trans h.m
  have hy : Mv (fun _ => False) W Y := by rw [← hY]; exact bxw9_mv _ _ _ _ _ _ _ _ _ h.mv h.hp
  have hq : (bxw2 Y q (.int .i64 0) (.int .i64 0)).heap[q]? = some (.cells #[.int .i64 0, .int .i64 0] 26 (0, 0)) := setCell_blk (setCell_blk hm)
  refine ⟨p, q, _, _, _, _, _, _, _, _, _, rfl, rfl, bxw2_mv _ _ hy h.hq, cells9_blk ((bxw2_far _ _ hne).trans h9), by rw [cell_blk hq]; rfl, h.ds _ (fun g h1 h2 _ => ?_)⟩
  exact (bxw2_far _ _ h2).trans (by rw [← hY]; exact bxw9_far _ _ _ _ _ _ _ _ _ h1)

theorem gmv {W W' : World} (h : G W ∧ TN W) (hm : Mv (fun _ => False) W W') : G W' ∧ TN W' := ⟨h.1.mv hm id, h.2.mv hm id⟩

end Go.Proofs.YthmdgbmodgfcmaaGreatDoor
/-
  The texts of SyntaxLevels, and what is to be reckoned of them.
-/
namespace Go.Proofs.YthmdgbmodgfcmaaGreatDoor
open Go.RowKit

def opB : Nat → List UInt8
  | 0 => [124, 124]
  | 1 => [38, 38]
  | 2 => [124]
  | 3 => [94]
  | 4 => [38]
  | 5 => [61, 61]
  | 6 => [33, 61]
  | 7 => [60]
  | 8 => [60, 61]
  | 9 => [62]
  | 10 => [62, 61]
  | 11 => [60, 60]
  | 12 => [62, 62]
  | 13 => [43]
  | 14 => [45]
  | 15 => [42]
  | 16 => [47]
  | 17 => [37]
  | _ => []
def lvB : Nat → Nat
  | 0 => 1
  | 1 => 2
  | 2 => 3
  | 3 => 4
  | 4 => 5
  | 5 => 6
  | 6 => 6
  | 7 => 7
  | 8 => 7
  | 9 => 7
  | 10 => 7
  | 11 => 8
  | 12 => 8
  | 13 => 9
  | 14 => 9
  | 15 => 10
  | 16 => 10
  | 17 => 10
  | _ => 0

def tE (i k : Nat) : List UInt8 := [120, 32] ++ opB i ++ [32, 121, 32] ++ opB k ++ [32, 122]
def tL (i k : Nat) : List UInt8 := [40, 120, 32] ++ opB i ++ [32, 121, 41, 32] ++ opB k ++ [32, 122]
def tR (i k : Nat) : List UInt8 := [120, 32] ++ opB i ++ [32, 40, 121, 32] ++ opB k ++ [32, 122, 41]

def strsB : List (List D) → List (List D) → Bool
  | [], [] => true
  | [.str s] :: r, [.str t] :: q => s == t && strsB r q
  | _, _ => false
def bitsB : List (List D) → List (List D) → Bool
  | [], [] => true
  | [.bit s] :: r, [.bit t] :: q => s == t && bitsB r q
  | _, _ => false
def allB (g : List D → List D → Bool) : List (List D) → List (List D) → Bool
  | [], [] => true
  | e :: r, d :: q => g e d && allB g r q
  | _, _ => false
def noneB : List (List D) → List (List D) → Bool
  | [], [] => true
  | _, _ => false
/-- Two expressions are the same, and as expressions are. -/
def sameB : Nat → List D → List D → Bool
  | f + 1, [.num a0, .num a1, .str a2, .str a3, .row .str a4, .row .ast a5, .row .bool a6, .row .ast a7, .row .arg a8], [.num b0, .num b1, .str b2, .str b3, .row .str b4, .row .ast b5, .row .bool b6, .row .ast b7, .row .arg b8] =>
    decide (a0 = b0) && decide (a1 = b1) && (a2 == b2) && (a3 == b3) && (strsB a4 b4 && Nat.ble a4.length 1000000) && (allB (sameB f) a5 b5 && Nat.ble a5.length 1000000) && (bitsB a6 b6 && Nat.ble a6.length 1000000) && (allB (sameB f) a7 b7 && Nat.ble a7.length 1000000) && noneB a8 b8
  | _, _, _ => false

theorem strsB_eq : ∀ (a b : List (List D)), strsB a b = true → a = b ∧ ∀ e ∈ a, ∃ s, e = [D.str s]
  | [], [], _ => ⟨rfl, fun e h => by cases h⟩
  | [.str s] :: r, [.str t] :: q, h => by
    simp only [strsB, Bool.and_eq_true, beq_iff_eq] at h
    obtain ⟨h1, h2⟩ := strsB_eq r q h.2
    refine ⟨by rw [h.1, h1], fun e he => ?_⟩
    rcases List.mem_cons.1 he with rfl | he
    · exact ⟨s, rfl⟩
    · exact h2 e he
theorem bitsB_eq : ∀ (a b : List (List D)), bitsB a b = true → a = b ∧ ∀ e ∈ a, ∃ s, e = [D.bit s]
  | [], [], _ => ⟨rfl, fun e h => by cases h⟩
  | [.bit s] :: r, [.bit t] :: q, h => by
    simp only [bitsB, Bool.and_eq_true, beq_iff_eq] at h
    obtain ⟨h1, h2⟩ := bitsB_eq r q h.2
    refine ⟨by rw [h.1, h1], fun e he => ?_⟩
    rcases List.mem_cons.1 he with rfl | he
    · exact ⟨s, rfl⟩
    · exact h2 e he
theorem allB_eq {g : List D → List D → Bool} {p : List D → Prop} (hg : ∀ a b, g a b = true → a = b ∧ p a) : ∀ (a b : List (List D)), allB g a b = true → a = b ∧ ∀ e ∈ a, p e
  | [], [], _ => ⟨rfl, fun e h => by cases h⟩
  | x :: r, y :: q, h => by
    simp only [allB, Bool.and_eq_true] at h
    obtain ⟨h1, h2⟩ := allB_eq hg r q h.2
    obtain ⟨h3, h4⟩ := hg x y h.1
    refine ⟨by rw [h1, h3], fun e he => ?_⟩
    rcases List.mem_cons.1 he with rfl | he
    · exact h4
    · exact h2 e he
theorem noneB_eq (a b : List (List D)) (h : noneB a b = true) : a = [] ∧ b = [] := by
  cases a <;> cases b <;> simp_all [noneB]

theorem sameB_eq : ∀ (f : Nat) (a b : List D), sameB f a b = true → a = b ∧ wfA f a := by
  intro f
  induction f with
  | zero => intro a b h; simp [sameB] at h
  | succ f ih =>
    intro a b h
    unfold sameB at h
    split at h
    · rename_i f' a0 a1 a2 a3 a4 a5 a6 a7 a8 b0 b1 b2 b3 b4 b5 b6 b7 b8 hf
      obtain rfl : f = f' := Nat.succ.inj hf
      simp only [Bool.and_eq_true, decide_eq_true_eq, beq_iff_eq, Nat.ble_eq] at h
      obtain ⟨⟨⟨⟨⟨⟨⟨⟨h0, h1⟩, h2⟩, h3⟩, h4, l4⟩, h5, l5⟩, h6, l6⟩, h7, l7⟩, h8⟩ := h
      obtain ⟨e4, w4⟩ := strsB_eq _ _ h4
      obtain ⟨e5, w5⟩ := allB_eq ih _ _ h5
      obtain ⟨e6, w6⟩ := bitsB_eq _ _ h6
      obtain ⟨e7, w7⟩ := allB_eq ih _ _ h7
      obtain ⟨e8, e9⟩ := noneB_eq _ _ h8
      subst h0 h1 h2 h3 e4 e5 e6 e7 e8 e9
      exact ⟨rfl, _, _, _, _, _, _, _, _, _, rfl, ⟨l4, w4⟩, ⟨l5, w5⟩, ⟨l6, w6⟩, ⟨l7, w7⟩, by simp, fun e he => by cases he⟩
    · cases h

/-- What is reckoned of a pair of operators. -/
def levB (i k : Nat) : Bool := match exprV (tE i k), exprV (tL i k), exprV (tR i k) with
  | some (.ok e), some (.ok l), some (.ok r) => if lvB k > lvB i then sameB 8 e r else sameB 8 e l
  | _, _, _ => false

set_option maxRecDepth 1000000
theorem vl0_0 : levB 0 0 = true := by kernel_rfl

end Go.Proofs.YthmdgbmodgfcmaaGreatDoor
/-
  Pairs of operators: the first is one of 0 to 2.
-/
namespace Go.Proofs.YthmdgbmodgfcmaaGreatDoor
set_option maxRecDepth 1000000
theorem vl0_1 : levB 0 1 = true := by kernel_rfl
theorem vl0_2 : levB 0 2 = true := by kernel_rfl
theorem vl0_3 : levB 0 3 = true := by kernel_rfl
theorem vl0_4 : levB 0 4 = true := by kernel_rfl
theorem vl0_5 : levB 0 5 = true := by kernel_rfl
theorem vl0_6 : levB 0 6 = true := by kernel_rfl
theorem vl0_7 : levB 0 7 = true := by kernel_rfl
theorem vl0_8 : levB 0 8 = true := by kernel_rfl
theorem vl0_9 : levB 0 9 = true := by kernel_rfl
theorem vl0_10 : levB 0 10 = true := by kernel_rfl
theorem vl0_11 : levB 0 11 = true := by kernel_rfl
theorem vl0_12 : levB 0 12 = true := by kernel_rfl
theorem vl0_13 : levB 0 13 = true := by kernel_rfl
theorem vl0_14 : levB 0 14 = true := by kernel_rfl
theorem vl0_15 : levB 0 15 = true := by kernel_rfl
theorem vl0_16 : levB 0 16 = true := by kernel_rfl
theorem vl0_17 : levB 0 17 = true := by kernel_rfl
theorem vl1_0 : levB 1 0 = true := by kernel_rfl
theorem vl1_1 : levB 1 1 = true := by kernel_rfl
theorem vl1_2 : levB 1 2 = true := by kernel_rfl
theorem vl1_3 : levB 1 3 = true := by kernel_rfl
theorem vl1_4 : levB 1 4 = true := by kernel_rfl
theorem vl1_5 : levB 1 5 = true := by kernel_rfl
theorem vl1_6 : levB 1 6 = true := by kernel_rfl
theorem vl1_7 : levB 1 7 = true := by kernel_rfl
theorem vl1_8 : levB 1 8 = true := by kernel_rfl
theorem vl1_9 : levB 1 9 = true := by kernel_rfl
theorem vl1_10 : levB 1 10 = true := by kernel_rfl
theorem vl1_11 : levB 1 11 = true := by kernel_rfl
theorem vl1_12 : levB 1 12 = true := by kernel_rfl
theorem vl1_13 : levB 1 13 = true := by kernel_rfl
theorem vl1_14 : levB 1 14 = true := by kernel_rfl
theorem vl1_15 : levB 1 15 = true := by kernel_rfl
theorem vl1_16 : levB 1 16 = true := by kernel_rfl
theorem vl1_17 : levB 1 17 = true := by kernel_rfl
theorem vl2_0 : levB 2 0 = true := by kernel_rfl
theorem vl2_1 : levB 2 1 = true := by kernel_rfl
theorem vl2_2 : levB 2 2 = true := by kernel_rfl
theorem vl2_3 : levB 2 3 = true := by kernel_rfl
theorem vl2_4 : levB 2 4 = true := by kernel_rfl
theorem vl2_5 : levB 2 5 = true := by kernel_rfl
theorem vl2_6 : levB 2 6 = true := by kernel_rfl
theorem vl2_7 : levB 2 7 = true := by kernel_rfl
theorem vl2_8 : levB 2 8 = true := by kernel_rfl
theorem vl2_9 : levB 2 9 = true := by kernel_rfl
theorem vl2_10 : levB 2 10 = true := by kernel_rfl
theorem vl2_11 : levB 2 11 = true := by kernel_rfl
theorem vl2_12 : levB 2 12 = true := by kernel_rfl
theorem vl2_13 : levB 2 13 = true := by kernel_rfl
theorem vl2_14 : levB 2 14 = true := by kernel_rfl
theorem vl2_15 : levB 2 15 = true := by kernel_rfl
theorem vl2_16 : levB 2 16 = true := by kernel_rfl
theorem vl2_17 : levB 2 17 = true := by kernel_rfl
theorem vl0 : ∀ k, k < 18 → levB 0 k = true
  | 0, _ => vl0_0
  | 1, _ => vl0_1
  | 2, _ => vl0_2
  | 3, _ => vl0_3
  | 4, _ => vl0_4
  | 5, _ => vl0_5
  | 6, _ => vl0_6
  | 7, _ => vl0_7
  | 8, _ => vl0_8
  | 9, _ => vl0_9
  | 10, _ => vl0_10
  | 11, _ => vl0_11
  | 12, _ => vl0_12
  | 13, _ => vl0_13
  | 14, _ => vl0_14
  | 15, _ => vl0_15
  | 16, _ => vl0_16
  | 17, _ => vl0_17
  | k + 18, h => absurd h (by omega)
theorem vl1 : ∀ k, k < 18 → levB 1 k = true
  | 0, _ => vl1_0
  | 1, _ => vl1_1
  | 2, _ => vl1_2
  | 3, _ => vl1_3
  | 4, _ => vl1_4
  | 5, _ => vl1_5
  | 6, _ => vl1_6
  | 7, _ => vl1_7
  | 8, _ => vl1_8
  | 9, _ => vl1_9
  | 10, _ => vl1_10
  | 11, _ => vl1_11
  | 12, _ => vl1_12
  | 13, _ => vl1_13
  | 14, _ => vl1_14
  | 15, _ => vl1_15
  | 16, _ => vl1_16
  | 17, _ => vl1_17
  | k + 18, h => absurd h (by omega)
theorem vl2 : ∀ k, k < 18 → levB 2 k = true
  | 0, _ => vl2_0
  | 1, _ => vl2_1
  | 2, _ => vl2_2
  | 3, _ => vl2_3
  | 4, _ => vl2_4
  | 5, _ => vl2_5
  | 6, _ => vl2_6
  | 7, _ => vl2_7
  | 8, _ => vl2_8
  | 9, _ => vl2_9
  | 10, _ => vl2_10
  | 11, _ => vl2_11
  | 12, _ => vl2_12
  | 13, _ => vl2_13
  | 14, _ => vl2_14
  | 15, _ => vl2_15
  | 16, _ => vl2_16
  | 17, _ => vl2_17
  | k + 18, h => absurd h (by omega)
end Go.Proofs.YthmdgbmodgfcmaaGreatDoor
/-
  Pairs of operators: the first is one of 3 to 5.
-/
namespace Go.Proofs.YthmdgbmodgfcmaaGreatDoor
set_option maxRecDepth 1000000
theorem vl3_0 : levB 3 0 = true := by kernel_rfl
theorem vl3_1 : levB 3 1 = true := by kernel_rfl
theorem vl3_2 : levB 3 2 = true := by kernel_rfl
theorem vl3_3 : levB 3 3 = true := by kernel_rfl
theorem vl3_4 : levB 3 4 = true := by kernel_rfl
theorem vl3_5 : levB 3 5 = true := by kernel_rfl
theorem vl3_6 : levB 3 6 = true := by kernel_rfl
theorem vl3_7 : levB 3 7 = true := by kernel_rfl
theorem vl3_8 : levB 3 8 = true := by kernel_rfl
theorem vl3_9 : levB 3 9 = true := by kernel_rfl
theorem vl3_10 : levB 3 10 = true := by kernel_rfl
theorem vl3_11 : levB 3 11 = true := by kernel_rfl
theorem vl3_12 : levB 3 12 = true := by kernel_rfl
theorem vl3_13 : levB 3 13 = true := by kernel_rfl
theorem vl3_14 : levB 3 14 = true := by kernel_rfl
theorem vl3_15 : levB 3 15 = true := by kernel_rfl
theorem vl3_16 : levB 3 16 = true := by kernel_rfl
theorem vl3_17 : levB 3 17 = true := by kernel_rfl
theorem vl4_0 : levB 4 0 = true := by kernel_rfl
theorem vl4_1 : levB 4 1 = true := by kernel_rfl
theorem vl4_2 : levB 4 2 = true := by kernel_rfl
theorem vl4_3 : levB 4 3 = true := by kernel_rfl
theorem vl4_4 : levB 4 4 = true := by kernel_rfl
theorem vl4_5 : levB 4 5 = true := by kernel_rfl
theorem vl4_6 : levB 4 6 = true := by kernel_rfl
theorem vl4_7 : levB 4 7 = true := by kernel_rfl
theorem vl4_8 : levB 4 8 = true := by kernel_rfl
theorem vl4_9 : levB 4 9 = true := by kernel_rfl
theorem vl4_10 : levB 4 10 = true := by kernel_rfl
theorem vl4_11 : levB 4 11 = true := by kernel_rfl
theorem vl4_12 : levB 4 12 = true := by kernel_rfl
theorem vl4_13 : levB 4 13 = true := by kernel_rfl
theorem vl4_14 : levB 4 14 = true := by kernel_rfl
theorem vl4_15 : levB 4 15 = true := by kernel_rfl
theorem vl4_16 : levB 4 16 = true := by kernel_rfl
theorem vl4_17 : levB 4 17 = true := by kernel_rfl
theorem vl5_0 : levB 5 0 = true := by kernel_rfl
theorem vl5_1 : levB 5 1 = true := by kernel_rfl
theorem vl5_2 : levB 5 2 = true := by kernel_rfl
theorem vl5_3 : levB 5 3 = true := by kernel_rfl
theorem vl5_4 : levB 5 4 = true := by kernel_rfl
theorem vl5_5 : levB 5 5 = true := by kernel_rfl
theorem vl5_6 : levB 5 6 = true := by kernel_rfl
theorem vl5_7 : levB 5 7 = true := by kernel_rfl
theorem vl5_8 : levB 5 8 = true := by kernel_rfl
theorem vl5_9 : levB 5 9 = true := by kernel_rfl
theorem vl5_10 : levB 5 10 = true := by kernel_rfl
theorem vl5_11 : levB 5 11 = true := by kernel_rfl
theorem vl5_12 : levB 5 12 = true := by kernel_rfl
theorem vl5_13 : levB 5 13 = true := by kernel_rfl
theorem vl5_14 : levB 5 14 = true := by kernel_rfl
theorem vl5_15 : levB 5 15 = true := by kernel_rfl
theorem vl5_16 : levB 5 16 = true := by kernel_rfl
theorem vl5_17 : levB 5 17 = true := by kernel_rfl
theorem vl3 : ∀ k, k < 18 → levB 3 k = true
  | 0, _ => vl3_0
  | 1, _ => vl3_1
  | 2, _ => vl3_2
  | 3, _ => vl3_3
  | 4, _ => vl3_4
  | 5, _ => vl3_5
  | 6, _ => vl3_6
  | 7, _ => vl3_7
  | 8, _ => vl3_8
  | 9, _ => vl3_9
  | 10, _ => vl3_10
  | 11, _ => vl3_11
  | 12, _ => vl3_12
  | 13, _ => vl3_13
  | 14, _ => vl3_14
  | 15, _ => vl3_15
  | 16, _ => vl3_16
  | 17, _ => vl3_17
  | k + 18, h => absurd h (by omega)
theorem vl4 : ∀ k, k < 18 → levB 4 k = true
  | 0, _ => vl4_0
  | 1, _ => vl4_1
  | 2, _ => vl4_2
  | 3, _ => vl4_3
  | 4, _ => vl4_4
  | 5, _ => vl4_5
  | 6, _ => vl4_6
  | 7, _ => vl4_7
  | 8, _ => vl4_8
  | 9, _ => vl4_9
  | 10, _ => vl4_10
  | 11, _ => vl4_11
  | 12, _ => vl4_12
  | 13, _ => vl4_13
  | 14, _ => vl4_14
  | 15, _ => vl4_15
  | 16, _ => vl4_16
  | 17, _ => vl4_17
  | k + 18, h => absurd h (by omega)
theorem vl5 : ∀ k, k < 18 → levB 5 k = true
  | 0, _ => vl5_0
  | 1, _ => vl5_1
  | 2, _ => vl5_2
  | 3, _ => vl5_3
  | 4, _ => vl5_4
  | 5, _ => vl5_5
  | 6, _ => vl5_6
  | 7, _ => vl5_7
  | 8, _ => vl5_8
  | 9, _ => vl5_9
  | 10, _ => vl5_10
  | 11, _ => vl5_11
  | 12, _ => vl5_12
  | 13, _ => vl5_13
  | 14, _ => vl5_14
  | 15, _ => vl5_15
  | 16, _ => vl5_16
  | 17, _ => vl5_17
  | k + 18, h => absurd h (by omega)
end Go.Proofs.YthmdgbmodgfcmaaGreatDoor
/-
  Pairs of operators: the first is one of 6 to 8.
-/
namespace Go.Proofs.YthmdgbmodgfcmaaGreatDoor
set_option maxRecDepth 1000000
theorem vl6_0 : levB 6 0 = true := by kernel_rfl
theorem vl6_1 : levB 6 1 = true := by kernel_rfl
theorem vl6_2 : levB 6 2 = true := by kernel_rfl
theorem vl6_3 : levB 6 3 = true := by kernel_rfl
theorem vl6_4 : levB 6 4 = true := by kernel_rfl
theorem vl6_5 : levB 6 5 = true := by kernel_rfl
theorem vl6_6 : levB 6 6 = true := by kernel_rfl
theorem vl6_7 : levB 6 7 = true := by kernel_rfl
theorem vl6_8 : levB 6 8 = true := by kernel_rfl
theorem vl6_9 : levB 6 9 = true := by kernel_rfl
theorem vl6_10 : levB 6 10 = true := by kernel_rfl
theorem vl6_11 : levB 6 11 = true := by kernel_rfl
theorem vl6_12 : levB 6 12 = true := by kernel_rfl
theorem vl6_13 : levB 6 13 = true := by kernel_rfl
theorem vl6_14 : levB 6 14 = true := by kernel_rfl
theorem vl6_15 : levB 6 15 = true := by kernel_rfl
theorem vl6_16 : levB 6 16 = true := by kernel_rfl
theorem vl6_17 : levB 6 17 = true := by kernel_rfl
theorem vl7_0 : levB 7 0 = true := by kernel_rfl
theorem vl7_1 : levB 7 1 = true := by kernel_rfl
theorem vl7_2 : levB 7 2 = true := by kernel_rfl
theorem vl7_3 : levB 7 3 = true := by kernel_rfl
theorem vl7_4 : levB 7 4 = true := by kernel_rfl
theorem vl7_5 : levB 7 5 = true := by kernel_rfl
theorem vl7_6 : levB 7 6 = true := by kernel_rfl
theorem vl7_7 : levB 7 7 = true := by kernel_rfl
theorem vl7_8 : levB 7 8 = true := by kernel_rfl
theorem vl7_9 : levB 7 9 = true := by kernel_rfl
theorem vl7_10 : levB 7 10 = true := by kernel_rfl
theorem vl7_11 : levB 7 11 = true := by kernel_rfl
theorem vl7_12 : levB 7 12 = true := by kernel_rfl
theorem vl7_13 : levB 7 13 = true := by kernel_rfl
theorem vl7_14 : levB 7 14 = true := by kernel_rfl
theorem vl7_15 : levB 7 15 = true := by kernel_rfl
theorem vl7_16 : levB 7 16 = true := by kernel_rfl
theorem vl7_17 : levB 7 17 = true := by kernel_rfl
theorem vl8_0 : levB 8 0 = true := by kernel_rfl
theorem vl8_1 : levB 8 1 = true := by kernel_rfl
theorem vl8_2 : levB 8 2 = true := by kernel_rfl
theorem vl8_3 : levB 8 3 = true := by kernel_rfl
theorem vl8_4 : levB 8 4 = true := by kernel_rfl
theorem vl8_5 : levB 8 5 = true := by kernel_rfl
theorem vl8_6 : levB 8 6 = true := by kernel_rfl
theorem vl8_7 : levB 8 7 = true := by kernel_rfl
theorem vl8_8 : levB 8 8 = true := by kernel_rfl
theorem vl8_9 : levB 8 9 = true := by kernel_rfl
theorem vl8_10 : levB 8 10 = true := by kernel_rfl
theorem vl8_11 : levB 8 11 = true := by kernel_rfl
theorem vl8_12 : levB 8 12 = true := by kernel_rfl
theorem vl8_13 : levB 8 13 = true := by kernel_rfl
theorem vl8_14 : levB 8 14 = true := by kernel_rfl
theorem vl8_15 : levB 8 15 = true := by kernel_rfl
theorem vl8_16 : levB 8 16 = true := by kernel_rfl
theorem vl8_17 : levB 8 17 = true := by kernel_rfl
theorem vl6 : ∀ k, k < 18 → levB 6 k = true
  | 0, _ => vl6_0
  | 1, _ => vl6_1
  | 2, _ => vl6_2
  | 3, _ => vl6_3
  | 4, _ => vl6_4
  | 5, _ => vl6_5
  | 6, _ => vl6_6
  | 7, _ => vl6_7
  | 8, _ => vl6_8
  | 9, _ => vl6_9
  | 10, _ => vl6_10
  | 11, _ => vl6_11
  | 12, _ => vl6_12
  | 13, _ => vl6_13
  | 14, _ => vl6_14
  | 15, _ => vl6_15
  | 16, _ => vl6_16
  | 17, _ => vl6_17
  | k + 18, h => absurd h (by omega)
theorem vl7 : ∀ k, k < 18 → levB 7 k = true
  | 0, _ => vl7_0
  | 1, _ => vl7_1
  | 2, _ => vl7_2
  | 3, _ => vl7_3
  | 4, _ => vl7_4
  | 5, _ => vl7_5
  | 6, _ => vl7_6
  | 7, _ => vl7_7
  | 8, _ => vl7_8
  | 9, _ => vl7_9
  | 10, _ => vl7_10
  | 11, _ => vl7_11
  | 12, _ => vl7_12
  | 13, _ => vl7_13
  | 14, _ => vl7_14
  | 15, _ => vl7_15
  | 16, _ => vl7_16
  | 17, _ => vl7_17
  | k + 18, h => absurd h (by omega)
theorem vl8 : ∀ k, k < 18 → levB 8 k = true
  | 0, _ => vl8_0
  | 1, _ => vl8_1
  | 2, _ => vl8_2
  | 3, _ => vl8_3
  | 4, _ => vl8_4
  | 5, _ => vl8_5
  | 6, _ => vl8_6
  | 7, _ => vl8_7
  | 8, _ => vl8_8
  | 9, _ => vl8_9
  | 10, _ => vl8_10
  | 11, _ => vl8_11
  | 12, _ => vl8_12
  | 13, _ => vl8_13
  | 14, _ => vl8_14
  | 15, _ => vl8_15
  | 16, _ => vl8_16
  | 17, _ => vl8_17
  | k + 18, h => absurd h (by omega)
end Go.Proofs.YthmdgbmodgfcmaaGreatDoor
/-
  Pairs of operators: the first is one of 9 to 11.
-/
namespace Go.Proofs.YthmdgbmodgfcmaaGreatDoor
set_option maxRecDepth 1000000
theorem vl9_0 : levB 9 0 = true := by kernel_rfl
theorem vl9_1 : levB 9 1 = true := by kernel_rfl
theorem vl9_2 : levB 9 2 = true := by kernel_rfl
theorem vl9_3 : levB 9 3 = true := by kernel_rfl
theorem vl9_4 : levB 9 4 = true := by kernel_rfl
theorem vl9_5 : levB 9 5 = true := by kernel_rfl
theorem vl9_6 : levB 9 6 = true := by kernel_rfl
theorem vl9_7 : levB 9 7 = true := by kernel_rfl
theorem vl9_8 : levB 9 8 = true := by kernel_rfl
theorem vl9_9 : levB 9 9 = true := by kernel_rfl
theorem vl9_10 : levB 9 10 = true := by kernel_rfl
theorem vl9_11 : levB 9 11 = true := by kernel_rfl
theorem vl9_12 : levB 9 12 = true := by kernel_rfl
theorem vl9_13 : levB 9 13 = true := by kernel_rfl
theorem vl9_14 : levB 9 14 = true := by kernel_rfl
theorem vl9_15 : levB 9 15 = true := by kernel_rfl
theorem vl9_16 : levB 9 16 = true := by kernel_rfl
theorem vl9_17 : levB 9 17 = true := by kernel_rfl
theorem vl10_0 : levB 10 0 = true := by kernel_rfl
theorem vl10_1 : levB 10 1 = true := by kernel_rfl
theorem vl10_2 : levB 10 2 = true := by kernel_rfl
theorem vl10_3 : levB 10 3 = true := by kernel_rfl
theorem vl10_4 : levB 10 4 = true := by kernel_rfl
theorem vl10_5 : levB 10 5 = true := by kernel_rfl
theorem vl10_6 : levB 10 6 = true := by kernel_rfl
theorem vl10_7 : levB 10 7 = true := by kernel_rfl
theorem vl10_8 : levB 10 8 = true := by kernel_rfl
theorem vl10_9 : levB 10 9 = true := by kernel_rfl
theorem vl10_10 : levB 10 10 = true := by kernel_rfl
theorem vl10_11 : levB 10 11 = true := by kernel_rfl
theorem vl10_12 : levB 10 12 = true := by kernel_rfl
theorem vl10_13 : levB 10 13 = true := by kernel_rfl
theorem vl10_14 : levB 10 14 = true := by kernel_rfl
theorem vl10_15 : levB 10 15 = true := by kernel_rfl
theorem vl10_16 : levB 10 16 = true := by kernel_rfl
theorem vl10_17 : levB 10 17 = true := by kernel_rfl
theorem vl11_0 : levB 11 0 = true := by kernel_rfl
theorem vl11_1 : levB 11 1 = true := by kernel_rfl
theorem vl11_2 : levB 11 2 = true := by kernel_rfl
theorem vl11_3 : levB 11 3 = true := by kernel_rfl
theorem vl11_4 : levB 11 4 = true := by kernel_rfl
theorem vl11_5 : levB 11 5 = true := by kernel_rfl
theorem vl11_6 : levB 11 6 = true := by kernel_rfl
theorem vl11_7 : levB 11 7 = true := by kernel_rfl
theorem vl11_8 : levB 11 8 = true := by kernel_rfl
theorem vl11_9 : levB 11 9 = true := by kernel_rfl
theorem vl11_10 : levB 11 10 = true := by kernel_rfl
theorem vl11_11 : levB 11 11 = true := by kernel_rfl
theorem vl11_12 : levB 11 12 = true := by kernel_rfl
theorem vl11_13 : levB 11 13 = true := by kernel_rfl
theorem vl11_14 : levB 11 14 = true := by kernel_rfl
theorem vl11_15 : levB 11 15 = true := by kernel_rfl
theorem vl11_16 : levB 11 16 = true := by kernel_rfl
theorem vl11_17 : levB 11 17 = true := by kernel_rfl
theorem vl9 : ∀ k, k < 18 → levB 9 k = true
  | 0, _ => vl9_0
  | 1, _ => vl9_1
  | 2, _ => vl9_2
  | 3, _ => vl9_3
  | 4, _ => vl9_4
  | 5, _ => vl9_5
  | 6, _ => vl9_6
  | 7, _ => vl9_7
  | 8, _ => vl9_8
  | 9, _ => vl9_9
  | 10, _ => vl9_10
  | 11, _ => vl9_11
  | 12, _ => vl9_12
  | 13, _ => vl9_13
  | 14, _ => vl9_14
  | 15, _ => vl9_15
  | 16, _ => vl9_16
  | 17, _ => vl9_17
  | k + 18, h => absurd h (by omega)
theorem vl10 : ∀ k, k < 18 → levB 10 k = true
  | 0, _ => vl10_0
  | 1, _ => vl10_1
  | 2, _ => vl10_2
  | 3, _ => vl10_3
  | 4, _ => vl10_4
  | 5, _ => vl10_5
  | 6, _ => vl10_6
  | 7, _ => vl10_7
  | 8, _ => vl10_8
  | 9, _ => vl10_9
  | 10, _ => vl10_10
  | 11, _ => vl10_11
  | 12, _ => vl10_12
  | 13, _ => vl10_13
  | 14, _ => vl10_14
  | 15, _ => vl10_15
  | 16, _ => vl10_16
  | 17, _ => vl10_17
  | k + 18, h => absurd h (by omega)
theorem vl11 : ∀ k, k < 18 → levB 11 k = true
  | 0, _ => vl11_0
  | 1, _ => vl11_1
  | 2, _ => vl11_2
  | 3, _ => vl11_3
  | 4, _ => vl11_4
  | 5, _ => vl11_5
  | 6, _ => vl11_6
  | 7, _ => vl11_7
  | 8, _ => vl11_8
  | 9, _ => vl11_9
  | 10, _ => vl11_10
  | 11, _ => vl11_11
  | 12, _ => vl11_12
  | 13, _ => vl11_13
  | 14, _ => vl11_14
  | 15, _ => vl11_15
  | 16, _ => vl11_16
  | 17, _ => vl11_17
  | k + 18, h => absurd h (by omega)
end Go.Proofs.YthmdgbmodgfcmaaGreatDoor
/-
  Pairs of operators: the first is one of 12 to 14.
-/
namespace Go.Proofs.YthmdgbmodgfcmaaGreatDoor
set_option maxRecDepth 1000000
theorem vl12_0 : levB 12 0 = true := by kernel_rfl
theorem vl12_1 : levB 12 1 = true := by kernel_rfl
theorem vl12_2 : levB 12 2 = true := by kernel_rfl
theorem vl12_3 : levB 12 3 = true := by kernel_rfl
theorem vl12_4 : levB 12 4 = true := by kernel_rfl
theorem vl12_5 : levB 12 5 = true := by kernel_rfl
theorem vl12_6 : levB 12 6 = true := by kernel_rfl
theorem vl12_7 : levB 12 7 = true := by kernel_rfl
theorem vl12_8 : levB 12 8 = true := by kernel_rfl
theorem vl12_9 : levB 12 9 = true := by kernel_rfl
theorem vl12_10 : levB 12 10 = true := by kernel_rfl
theorem vl12_11 : levB 12 11 = true := by kernel_rfl
theorem vl12_12 : levB 12 12 = true := by kernel_rfl
theorem vl12_13 : levB 12 13 = true := by kernel_rfl
theorem vl12_14 : levB 12 14 = true := by kernel_rfl
theorem vl12_15 : levB 12 15 = true := by kernel_rfl
theorem vl12_16 : levB 12 16 = true := by kernel_rfl
theorem vl12_17 : levB 12 17 = true := by kernel_rfl
theorem vl13_0 : levB 13 0 = true := by kernel_rfl
theorem vl13_1 : levB 13 1 = true := by kernel_rfl
theorem vl13_2 : levB 13 2 = true := by kernel_rfl
theorem vl13_3 : levB 13 3 = true := by kernel_rfl
theorem vl13_4 : levB 13 4 = true := by kernel_rfl
theorem vl13_5 : levB 13 5 = true := by kernel_rfl
theorem vl13_6 : levB 13 6 = true := by kernel_rfl
theorem vl13_7 : levB 13 7 = true := by kernel_rfl
theorem vl13_8 : levB 13 8 = true := by kernel_rfl
theorem vl13_9 : levB 13 9 = true := by kernel_rfl
theorem vl13_10 : levB 13 10 = true := by kernel_rfl
theorem vl13_11 : levB 13 11 = true := by kernel_rfl
theorem vl13_12 : levB 13 12 = true := by kernel_rfl
theorem vl13_13 : levB 13 13 = true := by kernel_rfl
theorem vl13_14 : levB 13 14 = true := by kernel_rfl
theorem vl13_15 : levB 13 15 = true := by kernel_rfl
theorem vl13_16 : levB 13 16 = true := by kernel_rfl
theorem vl13_17 : levB 13 17 = true := by kernel_rfl
theorem vl14_0 : levB 14 0 = true := by kernel_rfl
theorem vl14_1 : levB 14 1 = true := by kernel_rfl
theorem vl14_2 : levB 14 2 = true := by kernel_rfl
theorem vl14_3 : levB 14 3 = true := by kernel_rfl
theorem vl14_4 : levB 14 4 = true := by kernel_rfl
theorem vl14_5 : levB 14 5 = true := by kernel_rfl
theorem vl14_6 : levB 14 6 = true := by kernel_rfl
theorem vl14_7 : levB 14 7 = true := by kernel_rfl
theorem vl14_8 : levB 14 8 = true := by kernel_rfl
theorem vl14_9 : levB 14 9 = true := by kernel_rfl
theorem vl14_10 : levB 14 10 = true := by kernel_rfl
theorem vl14_11 : levB 14 11 = true := by kernel_rfl
theorem vl14_12 : levB 14 12 = true := by kernel_rfl
theorem vl14_13 : levB 14 13 = true := by kernel_rfl
theorem vl14_14 : levB 14 14 = true := by kernel_rfl
theorem vl14_15 : levB 14 15 = true := by kernel_rfl
theorem vl14_16 : levB 14 16 = true := by kernel_rfl
theorem vl14_17 : levB 14 17 = true := by kernel_rfl
theorem vl12 : ∀ k, k < 18 → levB 12 k = true
  | 0, _ => vl12_0
  | 1, _ => vl12_1
  | 2, _ => vl12_2
  | 3, _ => vl12_3
  | 4, _ => vl12_4
  | 5, _ => vl12_5
  | 6, _ => vl12_6
  | 7, _ => vl12_7
  | 8, _ => vl12_8
  | 9, _ => vl12_9
  | 10, _ => vl12_10
  | 11, _ => vl12_11
  | 12, _ => vl12_12
  | 13, _ => vl12_13
  | 14, _ => vl12_14
  | 15, _ => vl12_15
  | 16, _ => vl12_16
  | 17, _ => vl12_17
  | k + 18, h => absurd h (by omega)
theorem vl13 : ∀ k, k < 18 → levB 13 k = true
  | 0, _ => vl13_0
  | 1, _ => vl13_1
  | 2, _ => vl13_2
  | 3, _ => vl13_3
  | 4, _ => vl13_4
  | 5, _ => vl13_5
  | 6, _ => vl13_6
  | 7, _ => vl13_7
  | 8, _ => vl13_8
  | 9, _ => vl13_9
  | 10, _ => vl13_10
  | 11, _ => vl13_11
  | 12, _ => vl13_12
  | 13, _ => vl13_13
  | 14, _ => vl13_14
  | 15, _ => vl13_15
  | 16, _ => vl13_16
  | 17, _ => vl13_17
  | k + 18, h => absurd h (by omega)
theorem vl14 : ∀ k, k < 18 → levB 14 k = true
  | 0, _ => vl14_0
  | 1, _ => vl14_1
  | 2, _ => vl14_2
  | 3, _ => vl14_3
  | 4, _ => vl14_4
  | 5, _ => vl14_5
  | 6, _ => vl14_6
  | 7, _ => vl14_7
  | 8, _ => vl14_8
  | 9, _ => vl14_9
  | 10, _ => vl14_10
  | 11, _ => vl14_11
  | 12, _ => vl14_12
  | 13, _ => vl14_13
  | 14, _ => vl14_14
  | 15, _ => vl14_15
  | 16, _ => vl14_16
  | 17, _ => vl14_17
  | k + 18, h => absurd h (by omega)
end Go.Proofs.YthmdgbmodgfcmaaGreatDoor
/-
  Pairs of operators: the first is one of 15 to 17.
-/
namespace Go.Proofs.YthmdgbmodgfcmaaGreatDoor
set_option maxRecDepth 1000000
theorem vl15_0 : levB 15 0 = true := by kernel_rfl
theorem vl15_1 : levB 15 1 = true := by kernel_rfl
theorem vl15_2 : levB 15 2 = true := by kernel_rfl
theorem vl15_3 : levB 15 3 = true := by kernel_rfl
theorem vl15_4 : levB 15 4 = true := by kernel_rfl
theorem vl15_5 : levB 15 5 = true := by kernel_rfl
theorem vl15_6 : levB 15 6 = true := by kernel_rfl
theorem vl15_7 : levB 15 7 = true := by kernel_rfl
theorem vl15_8 : levB 15 8 = true := by kernel_rfl
theorem vl15_9 : levB 15 9 = true := by kernel_rfl
theorem vl15_10 : levB 15 10 = true := by kernel_rfl
theorem vl15_11 : levB 15 11 = true := by kernel_rfl
theorem vl15_12 : levB 15 12 = true := by kernel_rfl
theorem vl15_13 : levB 15 13 = true := by kernel_rfl
theorem vl15_14 : levB 15 14 = true := by kernel_rfl
theorem vl15_15 : levB 15 15 = true := by kernel_rfl
theorem vl15_16 : levB 15 16 = true := by kernel_rfl
theorem vl15_17 : levB 15 17 = true := by kernel_rfl
theorem vl16_0 : levB 16 0 = true := by kernel_rfl
theorem vl16_1 : levB 16 1 = true := by kernel_rfl
theorem vl16_2 : levB 16 2 = true := by kernel_rfl
theorem vl16_3 : levB 16 3 = true := by kernel_rfl
theorem vl16_4 : levB 16 4 = true := by kernel_rfl
theorem vl16_5 : levB 16 5 = true := by kernel_rfl
theorem vl16_6 : levB 16 6 = true := by kernel_rfl
theorem vl16_7 : levB 16 7 = true := by kernel_rfl
theorem vl16_8 : levB 16 8 = true := by kernel_rfl
theorem vl16_9 : levB 16 9 = true := by kernel_rfl
theorem vl16_10 : levB 16 10 = true := by kernel_rfl
theorem vl16_11 : levB 16 11 = true := by kernel_rfl
theorem vl16_12 : levB 16 12 = true := by kernel_rfl
theorem vl16_13 : levB 16 13 = true := by kernel_rfl
theorem vl16_14 : levB 16 14 = true := by kernel_rfl
theorem vl16_15 : levB 16 15 = true := by kernel_rfl
theorem vl16_16 : levB 16 16 = true := by kernel_rfl
theorem vl16_17 : levB 16 17 = true := by kernel_rfl
theorem vl17_0 : levB 17 0 = true := by kernel_rfl
theorem vl17_1 : levB 17 1 = true := by kernel_rfl
theorem vl17_2 : levB 17 2 = true := by kernel_rfl
theorem vl17_3 : levB 17 3 = true := by kernel_rfl
theorem vl17_4 : levB 17 4 = true := by kernel_rfl
theorem vl17_5 : levB 17 5 = true := by kernel_rfl
theorem vl17_6 : levB 17 6 = true := by kernel_rfl
theorem vl17_7 : levB 17 7 = true := by kernel_rfl
theorem vl17_8 : levB 17 8 = true := by kernel_rfl
theorem vl17_9 : levB 17 9 = true := by kernel_rfl
theorem vl17_10 : levB 17 10 = true := by kernel_rfl
theorem vl17_11 : levB 17 11 = true := by kernel_rfl
theorem vl17_12 : levB 17 12 = true := by kernel_rfl
theorem vl17_13 : levB 17 13 = true := by kernel_rfl
theorem vl17_14 : levB 17 14 = true := by kernel_rfl
theorem vl17_15 : levB 17 15 = true := by kernel_rfl
theorem vl17_16 : levB 17 16 = true := by kernel_rfl
theorem vl17_17 : levB 17 17 = true := by kernel_rfl
theorem vl15 : ∀ k, k < 18 → levB 15 k = true
  | 0, _ => vl15_0
  | 1, _ => vl15_1
  | 2, _ => vl15_2
  | 3, _ => vl15_3
  | 4, _ => vl15_4
  | 5, _ => vl15_5
  | 6, _ => vl15_6
  | 7, _ => vl15_7
  | 8, _ => vl15_8
  | 9, _ => vl15_9
  | 10, _ => vl15_10
  | 11, _ => vl15_11
  | 12, _ => vl15_12
  | 13, _ => vl15_13
  | 14, _ => vl15_14
  | 15, _ => vl15_15
  | 16, _ => vl15_16
  | 17, _ => vl15_17
  | k + 18, h => absurd h (by omega)
theorem vl16 : ∀ k, k < 18 → levB 16 k = true
  | 0, _ => vl16_0
  | 1, _ => vl16_1
  | 2, _ => vl16_2
  | 3, _ => vl16_3
  | 4, _ => vl16_4
  | 5, _ => vl16_5
  | 6, _ => vl16_6
  | 7, _ => vl16_7
  | 8, _ => vl16_8
  | 9, _ => vl16_9
  | 10, _ => vl16_10
  | 11, _ => vl16_11
  | 12, _ => vl16_12
  | 13, _ => vl16_13
  | 14, _ => vl16_14
  | 15, _ => vl16_15
  | 16, _ => vl16_16
  | 17, _ => vl16_17
  | k + 18, h => absurd h (by omega)
theorem vl17 : ∀ k, k < 18 → levB 17 k = true
  | 0, _ => vl17_0
  | 1, _ => vl17_1
  | 2, _ => vl17_2
  | 3, _ => vl17_3
  | 4, _ => vl17_4
  | 5, _ => vl17_5
  | 6, _ => vl17_6
  | 7, _ => vl17_7
  | 8, _ => vl17_8
  | 9, _ => vl17_9
  | 10, _ => vl17_10
  | 11, _ => vl17_11
  | 12, _ => vl17_12
  | 13, _ => vl17_13
  | 14, _ => vl17_14
  | 15, _ => vl17_15
  | 16, _ => vl17_16
  | 17, _ => vl17_17
  | k + 18, h => absurd h (by omega)
end Go.Proofs.YthmdgbmodgfcmaaGreatDoor
/-
  All pairs of operators.
-/
namespace Go.Proofs.YthmdgbmodgfcmaaGreatDoor
theorem lev_all : ∀ i, i < 18 → ∀ k, k < 18 → levB i k = true
  | 0, _ => vl0
  | 1, _ => vl1
  | 2, _ => vl2
  | 3, _ => vl3
  | 4, _ => vl4
  | 5, _ => vl5
  | 6, _ => vl6
  | 7, _ => vl7
  | 8, _ => vl8
  | 9, _ => vl9
  | 10, _ => vl10
  | 11, _ => vl11
  | 12, _ => vl12
  | 13, _ => vl13
  | 14, _ => vl14
  | 15, _ => vl15
  | 16, _ => vl16
  | 17, _ => vl17
  | i + 18, h => absurd h (by omega)
end Go.Proofs.YthmdgbmodgfcmaaGreatDoor
