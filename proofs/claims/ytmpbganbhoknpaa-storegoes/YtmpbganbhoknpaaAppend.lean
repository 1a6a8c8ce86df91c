/-
  What append does to a row of bytes that lies among new blocks: behind it the old bytes and the new ones stand in a row, and no elder block has turned. Laws on the model; nothing of the program's text.
-/
import Derived.Test.YtmpbganbhoknpaaKit
import Derived.Deep.AppendSrc
namespace Go.Proofs.Ytmpbganbhoknpaa
open Go.RowKit

/-- A slice of bytes in a row of its own, at a block from B on. -/
structure RowAt (w : World) (B g cap : Nat) (ds : List UInt8) : Prop where
  lo : B ≤ g
  blk : ∃ cur t m, w.heap[g]? = some (.cells cur t m) ∧ cur.size = cap ∧ (m = (0, 0) ∨ cap ≤ m.1) ∧ ds.length ≤ cap ∧ cur.toList.take ds.length = cellsOf ds

theorem add_block (g j : Nat) : (⟨g, 0, none⟩ : Addr).add j = ⟨g, j, none⟩ := by unfold Addr.add; split <;> simp_all

theorem RowAt.cells {w : World} {B g cap : Nat} {ds : List UInt8} (h : RowAt w B g cap ds) : ∀ j u, (cellsOf ds)[j]? = some u → w.cell? ((⟨g, 0, none⟩ : Addr).add j) = some u := by
  intro j u hu
  obtain ⟨cur, t, m, hb, _, _, _, ht⟩ := h.blk
  rw [add_block, cell_of_row w g j cur t m hb]
  rw [← ht, List.getElem?_take] at hu
  split at hu
  · simpa using hu
  · cases hu

theorem RowAt.room {w : World} {B g cap : Nat} {ds : List UInt8} (h : RowAt w B g cap ds) (j : Nat) (hj : j < cap) : (w.cell? ⟨g, j, none⟩).isSome = true ∧ w.frozen? ⟨g, j, none⟩ = false := by
  obtain ⟨cur, t, m, hb, hs, hm, _, _⟩ := h.blk
  refine ⟨?_, ?_⟩
  · rw [cell_of_row w g j cur t m hb, Array.getElem?_eq_getElem (by omega)]; rfl
  · simp only [World.frozen?, hb]
    rcases hm with rfl | hm
    · simp
    · simp; omega

theorem RowAt.of_own {w : World} {B : Nat} {e : TypeId} {g cap : Nat} {ds : List UInt8} (h : w.ownsRow B e 1 (.slice (some ⟨g, 0, none⟩) ds.length cap) ds.length (cellsOf ds)) : RowAt w B g cap ds := by
  rcases h.2 with ⟨hv, _⟩ | ⟨g', cap', cur, hv, hb, hh, hn, _, hc, ht⟩
  · simp at hv
  · simp at hv
    obtain ⟨rfl, rfl⟩ := hv
    exact ⟨hb, cur, e, _, hh, by omega, .inl rfl, hn, by simpa using ht⟩

theorem below_setCells {B g : Nat} (hg : B ≤ g) : ∀ (vs : List Value) (o : Nat) (w : World), Below B w (w.setCells g o vs)
  | [], _, w => Below.refl B w
  | v :: r, o, w => ((Below.refl B w).setCell (p := ⟨g, o, none⟩) hg v).trans (below_setCells hg r (o + 1) _)

/-- THE LAW. -/
theorem run_append_row {P : Program} (w : World) (t tx ty e : TypeId) (i : TypeInfo) (ht : P.underlying t = some (.slice e)) (hi : P.info? e = some i) (hz : i.zero = some (.int .u8 0)) (hsz : i.size = 1) (hby : i.bytes = 1)
    {B g cap : Nat} {ds es : List UInt8} (h : RowAt w B g cap ds) (hB : B ≤ w.heap.size) (x : Value) (hx : Src P 1 tx x es.length (cellsOf es) w) (hlim : ds.length + es.length ≤ 140737488355328) :
    ∃ g' cap' w', (Builtin.append_ #[t, tx] ty #[.slice (some ⟨g, 0, none⟩) ds.length cap, x]).run P w = .ok (.slice (some ⟨g', 0, none⟩) (ds ++ es).length cap') w' ∧
      (∀ j u, (cellsOf (ds ++ es))[j]? = some u → w'.cell? ((⟨g', 0, none⟩ : Addr).add j) = some u) ∧ Below B w w' := by
  have hlen : ds.length + es.length = (ds ++ es).length := by simp
  by_cases hroom : ds.length + es.length ≤ cap
  · have hr := run_append_room_src (P := P) w t tx ty e i ht hi g 0 ds.length cap x es.length (cellsOf es) (by rw [hsz]; exact hx) hroom
      (fun j hj => by rw [cellsOf_length] at hj; rw [hsz]; simpa using (h.room (ds.length + j) (by omega)).1)
      (fun j hj => by rw [cellsOf_length] at hj; rw [hsz]; simpa using (h.room (ds.length + j) (by omega)).2)
    refine ⟨g, cap, _, by rw [hr, hlen], ?_, below_setCells h.lo _ _ _⟩
    intro j u hu
    rw [add_block, hsz]
    simp only [Nat.zero_add, Nat.mul_one]
    rw [cellsOf_append] at hu
    by_cases hj : j < ds.length
    · rw [World.cell?_setCells_out g _ _ w _ (fun _ _ => .inl hj)]
      rw [List.getElem?_append_left (by rw [cellsOf_length]; exact hj)] at hu
      have := h.cells j u hu
      rwa [add_block] at this
    · rw [List.getElem?_append_right (by rw [cellsOf_length]; omega), cellsOf_length] at hu
      have hlt : j - ds.length < (cellsOf es).length := (List.getElem?_eq_some_iff.1 hu).1
      have hin := World.cell?_setCells_in g (cellsOf es) ds.length w (fun k hk => by rw [cellsOf_length] at hk; exact (h.room (ds.length + k) (by omega)).1) (j - ds.length) hlt
      rw [show ds.length + (j - ds.length) = j from by omega] at hin
      rw [hin, ← hu, List.getElem?_eq_getElem hlt]
  · have hold := run_firstCells_some (P := P) w.drew i.size ds.length ⟨g, 0, none⟩ ds.length cap (cellsOf ds) (by rw [cellsOf_length, hsz, Nat.mul_one]) (by simpa using h.cells)
    have hr := run_append_grow_src (P := P) w t tx ty e i (.int .u8 0) ht hi hz (some ⟨g, 0, none⟩) ds.length cap (cellsOf ds) hold x es.length (cellsOf es) (by rw [hsz]; exact hx) (by omega) (by omega)
      (growslice_fits (by omega) (by rw [hby]; omega))
    refine ⟨w.heap.size, _, _, by rw [hr, hlen], ?_, ((Below.refl B w).drew).alloc (by simpa using hB) _⟩
    intro j u hu
    rw [add_block, cell_of_row _ w.heap.size j _ _ _ (heap_alloc_new w.drew _)]
    rw [cellsOf_append] at hu
    have hlt := (List.getElem?_eq_some_iff.1 hu).1
    rw [Array.getElem?_append_left (by simpa using hlt)]
    simpa using hu

/-- The law, as the walk takes it. -/
theorem wpList_append_row {P : Program} (w : World) {ops : Array Oper} {rest : List Oper} {o : Oper} {a : Act} {Q : Exit → Act → World → Prop} (hgd : o.guard = none) (s x : Operand) (t tx : TypeId)
    (ho : o.op = .call { callee := .builtin .append, args := #[s, x], argTypes := #[t, tx] })
    (e : TypeId) (i : TypeInfo) (ht : P.underlying t = some (.slice e)) (hi : P.info? e = some i) (hz : i.zero = some (.int .u8 0)) (hsz : i.size = 1) (hby : i.bytes = 1)
    (B g cap : Nat) (ds es : List UInt8) (hs : a.eval s = .slice (some ⟨g, 0, none⟩) ds.length cap) (h : RowAt w B g cap ds) (hB : B ≤ w.heap.size) (xv : Value) (hxv : a.eval x = xv) (hx : Src P 1 tx xv es.length (cellsOf es) w) (hlim : ds.length + es.length ≤ 140737488355328)
    (hK : ∀ g' cap' w', (∀ j u, (cellsOf (ds ++ es))[j]? = some u → w'.cell? ((⟨g', 0, none⟩ : Addr).add j) = some u) → Below B w w' → wpList P ops Q rest (a.put o.dst (.slice (some ⟨g', 0, none⟩) (ds ++ es).length cap')) w') : wpList P ops Q (o :: rest) a w := by
  refine wpList_plain hgd fun _ hK' => ?_
  obtain ⟨g', cap', w', hr, h1, h2⟩ := run_append_row (P := P) w t tx o.type e i ht hi hz hsz hby h hB xv hx hlim
  unfold Oper.wp execOp
  simp only [ho, resolve, invoke, builtin, Sem.run_bind, Sem.run_pure, Result.andThen_ok, List.map_toArray, List.map_cons, List.map_nil, hs, hxv, hr]
  exact hK' _ _ (hK g' cap' w' h1 h2)

theorem RowAt.kept {w w' : World} {B g cap : Nat} {ds : List UInt8} (h : RowAt w B g cap ds) (hk : Kept [] w w') : RowAt w' B g cap ds := by
  obtain ⟨lo, cur, t, m, hb, r⟩ := h
  exact ⟨lo, cur, t, m, hk.heap hb (by simp), r⟩

/-- A text's bytes. -/
def bytesOf (s : ByteArray) : List UInt8 := s.data.toList
theorem bytesOf_length (s : ByteArray) : (bytesOf s).length = s.size := by unfold bytesOf; rw [Array.length_toList]; rfl

/-- '[]byte(s)', as the walk takes it: a new row that holds the text's bytes. -/
theorem wpList_bytes_of {P : Program} (w : World) {ops : Array Oper} {rest : List Oper} {o : Oper} {a : Act} {Q : Exit → Act → World → Prop} (hgd : o.guard = none) (x : Operand) (src dst e : TypeId)
    (ho : o.op = .convert src dst x) (s : ByteArray) (hx : a.eval x = .string s) (hs : P.underlying src = some .string) (hd : P.underlying dst = some (.slice e)) (he : P.underlying e = some (.int .u8)) (B : Nat) (hB : B ≤ w.heap.size)
    (hK : ∀ g cap w', RowAt w' B g cap (bytesOf s) → Below B w w' → wpList P ops Q rest (a.put o.dst (.slice (some ⟨g, 0, none⟩) (bytesOf s).length cap)) w') : wpList P ops Q (o :: rest) a w := by
  refine wpList_plain hgd fun _ hK' => ?_
  have hr := run_bytes_of_string (P := P) w src dst e s hs hd he
  have hge := grownCap_ge w s.size 0 e
  unfold Oper.wp
  simp [execOp, ho, hx, hr, Result.andThen]
  have hsz : (bytesRow s (grownCap w s.size 0 e)).size = grownCap w s.size 0 e := by
    unfold bytesRow
    rw [Array.size_append, Array.size_map, Array.size_replicate]
    have : s.data.size = s.size := rfl
    omega
  have htk : (bytesRow s (grownCap w s.size 0 e)).toList.take s.size = cellsOf (bytesOf s) := by
    unfold bytesRow
    rw [Array.toList_append, Array.toList_map]
    have e1 : s.size = (List.map (fun b => Value.int .u8 (b.toNat : Int)) s.data.toList).length := by rw [List.length_map, Array.length_toList]; rfl
    rw [e1, List.take_left]
    rfl
  have h := hK _ _ _ ⟨hB, _, _, _, heap_alloc_new w.drew (.cells (bytesRow s (grownCap w s.size 0 e)) e ((bytesRow s (grownCap w s.size 0 e)).size, (bytesRow s (grownCap w s.size 0 e)).size + 1)), hsz, .inr (Nat.le_of_eq hsz.symm), by rw [bytesOf_length]; exact hge, by rw [bytesOf_length]; exact htk⟩ (((Below.refl B w).drew).alloc (by simpa using hB) _)
  rw [bytesOf_length] at h
  exact hK' _ _ h

end Go.Proofs.Ytmpbganbhoknpaa
