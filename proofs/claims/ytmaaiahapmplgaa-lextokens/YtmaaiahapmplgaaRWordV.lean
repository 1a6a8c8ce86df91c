/-
  What the reference's functions that read a word hand back, and how they leave.
-/
import Derived.Test.YtmaaiahapmplgaaLReadWord
namespace Go.Proofs.Ytmaaiahapmplgaa
open Go.RowKit

/-- A word, where it ends, what is wrong: as the reference's values (the place is not told yet). -/
def rwordV (p : Nat) : Except Mis (Nat × List UInt8 × Nat × Nat) → Value
  | .error (e, k) => .tuple #[.agg #[.int .i64 0, .string ⟨#[]⟩, .int .i64 0, .int .i64 0], .int .i64 0, .agg #[.int .i64 (e : Int), .int .i64 ((p + k : Nat) : Int)]]
  | .ok (kind, t, v, m) => .tuple #[.agg #[.int .i64 (kind : Int), .string (strL t), .int .i64 (v : Int), .int .i64 0], .int .i64 ((p + m : Nat) : Int), .agg #[.int .i64 0, .int .i64 0]]

theorem rleave3 {fn : Func} (hfn : fn.results = #[.cell 4 34, .tmp 5, .cell 6 26]) {T : Array Value} {W : World} {H : Nat} {a b c d x y v : Value} {R : Ending → World → Prop}
    (h4 : T[4]?.getD undef = .pointer (some ⟨H, 0, none⟩)) (h5 : T[5]?.getD undef = v) (h6 : T[6]?.getD undef = .pointer (some ⟨H + 1, 0, none⟩))
    (b1 : W.heap[H]? = some (.cells #[a, b, c, d] 34 (0, 0))) (b2 : W.heap[H + 1]? = some (.cells #[x, y] 26 (0, 0)))
    (hR : R (.returned (.tuple #[.agg #[a, b, c, d], v, .agg #[x, y]])) W) : bodyPost Try.prog fn R .ret { tmps := T, defers := [] } W := by
  have e0 := cell_blk b1 0
  have e1 := cell_blk b1 1
  have e2 := cell_blk b1 2
  have e3 := cell_blk b1 3
  have f0 := cell_blk b2 0
  have f1 := cell_blk b2 1
  simp at e0 e1 e2 e3 f0 f1
  refine bodyPost_ret (v := .tuple #[.agg #[a, b, c, d], v, .agg #[x, y]]) ?_ rfl hR
  simp only [results, hfn]
  simp [h4, h5, h6, go_sem, e0, e1, e2, e3, f0, f1]

/-- How a function that reads a word leaves: the word's cells and the mishap's are written. -/
theorem rleave_word {fn : Func} (hfn : fn.results = #[.cell 4 34, .tmp 5, .cell 6 26]) {T : Array Value} {w W : World} {H : Nat} {a b c d x y v V a' b' c' d' x' y' : Value}
    (h4 : T[4]?.getD undef = .pointer (some ⟨H, 0, none⟩)) (h5 : T[5]?.getD undef = v) (h6 : T[6]?.getD undef = .pointer (some ⟨H + 1, 0, none⟩))
    (b1 : W.heap[H]? = some (.cells #[a', b', c', d'] 34 (0, 0))) (b2 : W.heap[H + 1]? = some (.cells #[x', y'] 26 (0, 0))) (hk : Kept [] w W) (hH : w.heap.size ≤ H)
    (hV : .tuple #[.agg #[a, b, c, d], v, .agg #[x, y]] = V) :
    bodyPost Try.prog fn (fun e w' => e = .returned V ∧ Kept [] w w') .ret { tmps := T, defers := [] }
      ((((((W.setCell ⟨H, 0, none⟩ a).setCell ⟨H, 1, none⟩ b).setCell ⟨H, 2, none⟩ c).setCell ⟨H, 3, none⟩ d).setCell ⟨H + 1, 0, none⟩ x).setCell ⟨H + 1, 1, none⟩ y) := by
  have b2' : ((((W.setCell ⟨H, 0, none⟩ a).setCell ⟨H, 1, none⟩ b).setCell ⟨H, 2, none⟩ c).setCell ⟨H, 3, none⟩ d).heap[H + 1]? = some (.cells #[x', y'] 26 (0, 0)) := by
    rw [set_other (by omega), set_other (by omega), set_other (by omega), set_other (by omega)]; exact b2
  refine rleave3 hfn h4 h5 h6 (a := a) (b := b) (c := c) (d := d) (x := x) (y := y) ?_ (mis_set b2') ⟨by rw [hV], ?_⟩
  · rw [set_other (by omega), set_other (by omega)]; exact tok_set b1
  · exact (((((hk.trans (Kept.setCell _ _ _) (by simp; omega)).trans (Kept.setCell _ _ _) (by simp; omega)).trans (Kept.setCell _ _ _) (by simp; omega)).trans (Kept.setCell _ _ _) (by simp; omega)).trans (Kept.setCell _ _ _) (by simp; omega)).trans (Kept.setCell _ _ _) (by simp; omega)

/-- The cells of the answers, as they were made. -/
def RTwo (W : World) (H : Nat) : Prop := W.heap[H]? = some (.cells #[.int .i64 0, .string ⟨#[]⟩, .int .i64 0, .int .i64 0] 34 (0, 0)) ∧ W.heap[H + 1]? = some (.cells #[.int .i64 0, .int .i64 0] 26 (0, 0))

theorem rtwo_new (w : World) : RTwo ((w.alloc (.cells #[.int .i64 0, .string ⟨#[]⟩, .int .i64 0, .int .i64 0] 34)).alloc (.cells #[.int .i64 0, .int .i64 0] 26)) w.heap.size := by
  have h1 := heap_alloc_new w (.cells #[.int .i64 0, .string ⟨#[]⟩, .int .i64 0, .int .i64 0] 34)
  have h2 := heap_alloc_new (w.alloc (.cells #[.int .i64 0, .string ⟨#[]⟩, .int .i64 0, .int .i64 0] 34)) (.cells #[.int .i64 0, .int .i64 0] 26)
  rw [World.size_alloc] at h2
  exact ⟨(Kept.alloc [] _ _).heap h1 (by simp), h2⟩

theorem RTwo.kept {W W' : World} {H : Nat} (h : RTwo W H) (hk : Kept [] W W') : RTwo W' H := ⟨hk.heap h.1 (by simp), hk.heap h.2 (by simp)⟩

theorem RTwo.facts {W : World} {H : Nat} (h : RTwo W H) :
    (W.cell? ⟨H, 0, none⟩ = some (.int .i64 0) ∧ W.cell? ⟨H, 1, none⟩ = some (.string ⟨#[]⟩) ∧ W.cell? ⟨H, 2, none⟩ = some (.int .i64 0) ∧ W.cell? ⟨H, 3, none⟩ = some (.int .i64 0) ∧ W.cell? ⟨H + 1, 0, none⟩ = some (.int .i64 0) ∧ W.cell? ⟨H + 1, 1, none⟩ = some (.int .i64 0)) ∧
    (W.frozen? ⟨H, 0, none⟩ = false ∧ W.frozen? ⟨H, 1, none⟩ = false ∧ W.frozen? ⟨H, 2, none⟩ = false ∧ W.frozen? ⟨H, 3, none⟩ = false ∧ W.frozen? ⟨H + 1, 0, none⟩ = false ∧ W.frozen? ⟨H + 1, 1, none⟩ = false) := by
  have e0 := cell_blk h.1 0
  have e1 := cell_blk h.1 1
  have e2 := cell_blk h.1 2
  have e3 := cell_blk h.1 3
  have f0 := cell_blk h.2 0
  have f1 := cell_blk h.2 1
  simp at e0 e1 e2 e3 f0 f1
  exact ⟨⟨e0, e1, e2, e3, f0, f1⟩, free_blk h.1 0, free_blk h.1 1, free_blk h.1 2, free_blk h.1 3, free_blk h.2 0, free_blk h.2 1⟩

theorem RTwo.ne1 {W : World} {H : Nat} (h : RTwo W H) : ¬ H = W.heap.size := Nat.ne_of_lt (lt_of_block h.1)
theorem RTwo.ne2 {W : World} {H : Nat} (h : RTwo W H) : ¬ H + 1 = W.heap.size := Nat.ne_of_lt (lt_of_block h.2)

theorem rkept_two (w : World) (S : List Nat) : Kept S w ((w.alloc (.cells #[.int .i64 0, .string ⟨#[]⟩, .int .i64 0, .int .i64 0] 34)).alloc (.cells #[.int .i64 0, .int .i64 0] 26)) :=
  (Kept.alloc S _ _).trans (Kept.alloc S _ _) (fun _ hx => .inl hx)

end Go.Proofs.Ytmaaiahapmplgaa
