/-
  SWrap.
-/
import Derived.Test.YthmdgbmodgfcmaaGreatDoorM17
/-
  What wrap does: an expression becomes the first part of another one.
-/
namespace Go.Proofs.YthmdgbmodgfcmaaGreatDoor
open Go.RowKit

def zA2 : Array Value := #[.int .i64 0, .int .i64 0, .string ⟨#[]⟩, .string ⟨#[]⟩, .slice none 0 0, .slice none 0 0, .slice none 0 0, .slice none 0 0, .slice none 0 0, .int .i64 0, .int .i64 0, .string ⟨#[]⟩, .string ⟨#[]⟩, .slice none 0 0, .slice none 0 0, .slice none 0 0, .slice none 0 0, .slice none 0 0]
def zA3 : Array Value := #[.int .i64 0, .int .i64 0, .string ⟨#[]⟩, .string ⟨#[]⟩, .slice none 0 0, .slice none 0 0, .slice none 0 0, .slice none 0 0, .slice none 0 0, .int .i64 0, .int .i64 0, .string ⟨#[]⟩, .string ⟨#[]⟩, .slice none 0 0, .slice none 0 0, .slice none 0 0, .slice none 0 0, .slice none 0 0, .int .i64 0, .int .i64 0, .string ⟨#[]⟩, .string ⟨#[]⟩, .slice none 0 0, .slice none 0 0, .slice none 0 0, .slice none 0 0, .slice none 0 0]

theorem make_asts (n : Nat) (zc : Array Value) (hn : n ≤ 3) (hz : madeCells ((zero .ast).map zval).toArray (n * 9) = zc) (W : World) :
    (Instr.makeSlice 35 (.int .i64 (n : Int)) (.int .i64 (n : Int))).run Tryz.prog W = .ok (.slice (some ⟨W.heap.size, 0, none⟩) n n) (W.alloc (.cells zc 41)) := by
  obtain ⟨i, z, h1, h2, h3, h4, h5⟩ := info_of .ast
  have hr := run_make (P := Tryz.prog) W 35 41 i z Tryz.underlying35 h1 h2 .i64 .i64 n n (by omega) (Int.le_refl _) (by
    have : (i.bytes : Int) * (n : Int) ≤ 65536 * 3 := Int.mul_le_mul (by omega) (by omega) (by omega) (by omega)
    omega) (by omega)
  rw [hr]
  have hc : z.cells = ((zero .ast).map zval).toArray := by apply Array.ext'; simpa using h3
  simp only [Int.toNat_natCast, hc, h4]
  rw [← hz]
  rfl

theorem DIs.one {w : World} {F : Nat → Prop} {v : Value} {d : D} (h : DIs ty w F v d) : v.oneCell' = true := by cases h <;> rfl

/-- All the cells are written anew. -/
theorem St.anew {E : Env} {w0 w : World} {F0 F : Nat → Prop} {b : Nat} {t : TypeId} {N o k i : Nat} {ds ds' : List D} (h : St E w0 F0 b t N o k w F i ds) {w' : World} {F' : Nat → Prop} {fp : Nat → Nat → Prop} {cs cs' : Array Value} (hcs : w.heap[b]? = some (.cells cs t (0, 0))) (hm : Mv (· = b) w w') (hcs' : w'.heap[b]? = some (.cells cs' t (0, 0)))
    (hout : ∀ j, (j < o ∨ o + k ≤ j) → cs'[j]? = cs[j]?) (hsz : cs'.size = N) (hl : ds'.length = k) (hd : ∀ j d, ds'[j]? = some d → ∃ v, cs'[o + j]? = some v ∧ DIs ty w' (fp j) v d) (hfp : ∀ j x, fp j x → F' x) (hdis : ∀ j j' x, fp j x → fp j' x → j = j')
    (hF' : ∀ x, F' x → F x ∨ (w.heap.size ≤ x ∧ x < w'.heap.size)) : St E w0 F0 b t N o k w' F' i ds' := by
  have hroom := h.cur.room
  have hlen := h.len
  have hblt := h.cur.blt
  have hnb : ∀ x, F' x → ¬ E.own x := fun x hx hown => by
    rcases hF' x hx with h1 | h1
    · exact h.nF x h1 hown
    · rcases hown with rfl | rfl | rfl
      · have := h.rd.rlt; omega
      · have := h.rd.wlt; omega
      · have := h.rd.tn.lt; omega
  refine ⟨h.rd.kept hm (fun e => h.nb (.inl e.symm)) (fun e => h.nb (.inr (.inl e.symm))) (fun e => h.nb (.inr (.inr e.symm))), ⟨⟨cs', fp, hcs', hsz, hd, hfp, hdis⟩, by omega, fun hx => ?_, fun x hx => ?_⟩, hl, h.mv.trans hm (fun x hx => .inl (.inr (.inl hx))), fun j hj => ?_, fun x hx => ?_, h.nb, hnb, h.nF0⟩
  · rcases hF' b hx with h1 | h1
    · exact h.cur.nb h1
    · omega
  · rcases hF' x hx with h1 | h1
    · exact Nat.lt_of_lt_of_le (h.cur.lt x h1) hm.size
    · exact h1.2
  · have := h.out j hj
    rw [← this, cell_blk hcs', cell_blk hcs]
    exact hout j hj
  · rcases hF' x hx with h1 | h1
    · exact h.fr x h1
    · exact .inr (Nat.le_trans h.mv.size h1.1)

/-- Nine cells are written, one behind the other. -/
def put9 (cs : Array Value) (o : Nat) (a0 a1 a2 a3 a4 a5 a6 a7 a8 : Value) : Array Value :=
  ((((((((cs.setIfInBounds o a0).setIfInBounds (o + 1) a1).setIfInBounds (o + 2) a2).setIfInBounds (o + 3) a3).setIfInBounds (o + 4) a4).setIfInBounds (o + 5) a5).setIfInBounds (o + 6) a6).setIfInBounds (o + 7) a7).setIfInBounds (o + 8) a8

theorem put9_out (cs : Array Value) (o : Nat) (a0 a1 a2 a3 a4 a5 a6 a7 a8 : Value) (j : Nat) (h : j < o ∨ o + 9 ≤ j) : (put9 cs o a0 a1 a2 a3 a4 a5 a6 a7 a8)[j]? = cs[j]? := by
  unfold put9
  repeat rw [Array.getElem?_setIfInBounds_ne (by omega)]
theorem put9_size (cs : Array Value) (o : Nat) (a0 a1 a2 a3 a4 a5 a6 a7 a8 : Value) : (put9 cs o a0 a1 a2 a3 a4 a5 a6 a7 a8).size = cs.size := by unfold put9; simp
theorem put9_in (cs : Array Value) (o : Nat) (a0 a1 a2 a3 a4 a5 a6 a7 a8 : Value) (h : o + 9 ≤ cs.size) (j : Nat) (v : Value) (hv : [a0, a1, a2, a3, a4, a5, a6, a7, a8][j]? = some v) : (put9 cs o a0 a1 a2 a3 a4 a5 a6 a7 a8)[o + j]? = some v := by
  have hj : j < 9 := (List.getElem?_eq_some_iff.1 hv).1
  unfold put9
  have : j = 0 ∨ j = 1 ∨ j = 2 ∨ j = 3 ∨ j = 4 ∨ j = 5 ∨ j = 6 ∨ j = 7 ∨ j = 8 := by omega
  rcases this with rfl | rfl | rfl | rfl | rfl | rfl | rfl | rfl | rfl
  · obtain rfl : a0 = v := Option.some.inj hv
    rw [show o + 0 = o from rfl]
    rw [Array.getElem?_setIfInBounds_ne (by omega)]
    rw [Array.getElem?_setIfInBounds_ne (by omega)]
    rw [Array.getElem?_setIfInBounds_ne (by omega)]
    rw [Array.getElem?_setIfInBounds_ne (by omega)]
    rw [Array.getElem?_setIfInBounds_ne (by omega)]
    rw [Array.getElem?_setIfInBounds_ne (by omega)]
    rw [Array.getElem?_setIfInBounds_ne (by omega)]
    rw [Array.getElem?_setIfInBounds_ne (by omega)]
    rw [Array.getElem?_setIfInBounds_self, if_pos (by first | omega | (simp; omega))]
  · obtain rfl : a1 = v := Option.some.inj hv
    rw [Array.getElem?_setIfInBounds_ne (by omega)]
    rw [Array.getElem?_setIfInBounds_ne (by omega)]
    rw [Array.getElem?_setIfInBounds_ne (by omega)]
    rw [Array.getElem?_setIfInBounds_ne (by omega)]
    rw [Array.getElem?_setIfInBounds_ne (by omega)]
    rw [Array.getElem?_setIfInBounds_ne (by omega)]
    rw [Array.getElem?_setIfInBounds_ne (by omega)]
    rw [Array.getElem?_setIfInBounds_self, if_pos (by first | omega | (simp; omega))]
  · obtain rfl : a2 = v := Option.some.inj hv
    rw [Array.getElem?_setIfInBounds_ne (by omega)]
    rw [Array.getElem?_setIfInBounds_ne (by omega)]
    rw [Array.getElem?_setIfInBounds_ne (by omega)]
    rw [Array.getElem?_setIfInBounds_ne (by omega)]
    rw [Array.getElem?_setIfInBounds_ne (by omega)]
    rw [Array.getElem?_setIfInBounds_ne (by omega)]
    rw [Array.getElem?_setIfInBounds_self, if_pos (by first | omega | (simp; omega))]
  · obtain rfl : a3 = v := Option.some.inj hv
    rw [Array.getElem?_setIfInBounds_ne (by omega)]
    rw [Array.getElem?_setIfInBounds_ne (by omega)]
    rw [Array.getElem?_setIfInBounds_ne (by omega)]
    rw [Array.getElem?_setIfInBounds_ne (by omega)]
    rw [Array.getElem?_setIfInBounds_ne (by omega)]
    rw [Array.getElem?_setIfInBounds_self, if_pos (by first | omega | (simp; omega))]
  · obtain rfl : a4 = v := Option.some.inj hv
    rw [Array.getElem?_setIfInBounds_ne (by omega)]
    rw [Array.getElem?_setIfInBounds_ne (by omega)]
    rw [Array.getElem?_setIfInBounds_ne (by omega)]
    rw [Array.getElem?_setIfInBounds_ne (by omega)]
    rw [Array.getElem?_setIfInBounds_self, if_pos (by first | omega | (simp; omega))]
  · obtain rfl : a5 = v := Option.some.inj hv
    rw [Array.getElem?_setIfInBounds_ne (by omega)]
    rw [Array.getElem?_setIfInBounds_ne (by omega)]
    rw [Array.getElem?_setIfInBounds_ne (by omega)]
    rw [Array.getElem?_setIfInBounds_self, if_pos (by first | omega | (simp; omega))]
  · obtain rfl : a6 = v := Option.some.inj hv
    rw [Array.getElem?_setIfInBounds_ne (by omega)]
    rw [Array.getElem?_setIfInBounds_ne (by omega)]
    rw [Array.getElem?_setIfInBounds_self, if_pos (by first | omega | (simp; omega))]
  · obtain rfl : a7 = v := Option.some.inj hv
    rw [Array.getElem?_setIfInBounds_ne (by omega)]
    rw [Array.getElem?_setIfInBounds_self, if_pos (by first | omega | (simp; omega))]
  · obtain rfl : a8 = v := Option.some.inj hv
    rw [Array.getElem?_setIfInBounds_self, if_pos (by first | omega | (simp; omega))]

def set9 (w : World) (b o : Nat) (a0 a1 a2 a3 a4 a5 a6 a7 a8 : Value) : World :=
  ((((((((w.setCell ⟨b, o, none⟩ a0).setCell ⟨b, o + 1, none⟩ a1).setCell ⟨b, o + 2, none⟩ a2).setCell ⟨b, o + 3, none⟩ a3).setCell ⟨b, o + 4, none⟩ a4).setCell ⟨b, o + 5, none⟩ a5).setCell ⟨b, o + 6, none⟩ a6).setCell ⟨b, o + 7, none⟩ a7).setCell ⟨b, o + 8, none⟩ a8

theorem set9_blk {w : World} {b o : Nat} {a0 a1 a2 a3 a4 a5 a6 a7 a8 : Value} {cs : Array Value} {t : TypeId} {m : Nat × Nat} (h : w.heap[b]? = some (.cells cs t m)) : (set9 w b o a0 a1 a2 a3 a4 a5 a6 a7 a8).heap[b]? = some (.cells (put9 cs o a0 a1 a2 a3 a4 a5 a6 a7 a8) t m) :=
  setCell_blk (setCell_blk (setCell_blk (setCell_blk (setCell_blk (setCell_blk (setCell_blk (setCell_blk (setCell_blk h))))))))
theorem set9_mv (w : World) (b o : Nat) (a0 a1 a2 a3 a4 a5 a6 a7 a8 : Value) : Mv (· = b) w (set9 w b o a0 a1 a2 a3 a4 a5 a6 a7 a8) := by
  unfold set9
  have st : ∀ (w' : World) (j : Nat) (v : Value), Mv (· = b) w w' → Mv (· = b) w (w'.setCell ⟨b, j, none⟩ v) := fun w' j v h => h.trans (Mv.setCell w' ⟨b, j, none⟩ v) (fun x hx => .inl hx)
  exact st _ _ _ (st _ _ _ (st _ _ _ (st _ _ _ (st _ _ _ (st _ _ _ (st _ _ _ (st _ _ _ (st _ _ _ (Mv.refl _ _)))))))))
theorem set9_size (w : World) (b o : Nat) (a0 a1 a2 a3 a4 a5 a6 a7 a8 : Value) : (set9 w b o a0 a1 a2 a3 a4 a5 a6 a7 a8).heap.size = w.heap.size := by unfold set9; simp [World.setCell]

set_option maxHeartbeats 8000000 in
set_option maxRecDepth 100000 in
theorem wrap2_walk (b o : Nat) (w : World) (kind : Int) (nm : ByteArray) (v0 v1 v2 v3 v4 v5 v6 v7 v8 : Value)
    (c0 : w.cell? ⟨b, o, none⟩ = some v0) (c1 : w.cell? ⟨b, o + 1, none⟩ = some v1) (c2 : w.cell? ⟨b, o + 2, none⟩ = some v2) (c3 : w.cell? ⟨b, o + 3, none⟩ = some v3) (c4 : w.cell? ⟨b, o + 4, none⟩ = some v4) (c5 : w.cell? ⟨b, o + 5, none⟩ = some v5) (c6 : w.cell? ⟨b, o + 6, none⟩ = some v6) (c7 : w.cell? ⟨b, o + 7, none⟩ = some v7) (c8 : w.cell? ⟨b, o + 8, none⟩ = some v8)
    (hf : ∀ j, w.frozen? ⟨b, j, none⟩ = false) (hblt : b < w.heap.size) (o0 : v0.oneCell' = true) (o1 : v1.oneCell' = true) (o2 : v2.oneCell' = true) (o3 : v3.oneCell' = true) (o4 : v4.oneCell' = true) (o5 : v5.oneCell' = true) (o6 : v6.oneCell' = true) (o7 : v7.oneCell' = true) (o8 : v8.oneCell' = true) :
    Calls Tryz.prog 66 #[.pointer (some ⟨b, o, none⟩), .int .i64 kind, .string nm, .int .i64 2] w fun e w' => e = .returned (.tuple #[]) ∧
      w' = (((set9 w b o (.int .i64 kind) (.int .i64 0) (.string nm) (.string ⟨#[]⟩) (.slice none 0 0) (.slice none 0 0) (.slice none 0 0) (.slice (some ⟨w.heap.size + 1, 0, none⟩) 2 2) (.slice none 0 0)).alloc (.cells #[v0, v1, v2, v3, v4, v5, v6, v7, v8] 41)).alloc
        (.cells #[v0, v1, v2, v3, v4, v5, v6, v7, v8, .int .i64 0, .int .i64 0, .string ⟨#[]⟩, .string ⟨#[]⟩, .slice none 0 0, .slice none 0 0, .slice none 0 0, .slice none 0 0, .slice none 0 0] 41)).drew := by
  have s0 := fun (a : Addr) (w : World) => run_store Tryz.prog w a v0 .plain o0
  have s1 := fun (a : Addr) (w : World) => run_store Tryz.prog w a v1 .plain o1
  have s2 := fun (a : Addr) (w : World) => run_store Tryz.prog w a v2 .plain o2
  have s3 := fun (a : Addr) (w : World) => run_store Tryz.prog w a v3 .plain o3
  have s4 := fun (a : Addr) (w : World) => run_store Tryz.prog w a v4 .plain o4
  have s5 := fun (a : Addr) (w : World) => run_store Tryz.prog w a v5 .plain o5
  have s6 := fun (a : Addr) (w : World) => run_store Tryz.prog w a v6 .plain o6
  have s7 := fun (a : Addr) (w : World) => run_store Tryz.prog w a v7 .plain o7
  have s8 := fun (a : Addr) (w : World) => run_store Tryz.prog w a v8 .plain o8
  have hmk : ∀ W : World, (Instr.makeSlice 35 (.int .i64 2) (.int .i64 2)).run Tryz.prog W = .ok (.slice (some ⟨W.heap.size, 0, none⟩) 2 2) (W.alloc (.cells #[.int .i64 0, .int .i64 0, .string ⟨#[]⟩, .string ⟨#[]⟩, .slice none 0 0, .slice none 0 0, .slice none 0 0, .slice none 0 0, .slice none 0 0, .int .i64 0, .int .i64 0, .string ⟨#[]⟩, .string ⟨#[]⟩, .slice none 0 0, .slice none 0 0, .slice none 0 0, .slice none 0 0, .slice none 0 0] 41)) := fun W => make_asts 2 zA2 (by decide) (by kernel_rfl) W
  go_enter Tryz.func66, Tryz.ntmps66
  go_wp2_with fail
  go_region
  go_wp2_with fail
  exact bodyPost_end (results_none rfl _ _ _) rfl ⟨rfl, rfl⟩

set_option maxHeartbeats 2000000 in
theorem wrap2_any {E : Env} {w0 w : World} {F0 F : Nat → Prop} {b : Nat} {t : TypeId} {N o i : Nat} {ds : List D} (h : St E w0 F0 b t N o 9 w F i ds) (kind : Int) (nm : List UInt8) :
    Calls Tryz.prog 66 #[.pointer (some ⟨b, o, none⟩), .int .i64 kind, .string (strOfL nm), .int .i64 2] w fun e w' => e = .returned (.tuple #[]) ∧
      ∃ F', St E w0 F0 b t N o 9 w' F' i [.num kind, .num 0, .str nm, .str [], .row .str [], .row .ast [], .row .bool [], .row .ast [ds, zAst], .row .arg []] := by
  obtain ⟨cs, fp, h1, h2, h3, h4, h5⟩ := h.cur.ex
  have hroom := h.cur.room
  have hlen := h.len
  obtain ⟨d0, d1, d2, d3, d4, d5, d6, d7, d8, rfl⟩ := len9 hlen
  obtain ⟨v0, e0, D0⟩ := h3 0 d0 rfl
  obtain ⟨v1, e1, D1⟩ := h3 1 d1 rfl
  obtain ⟨v2, e2, D2⟩ := h3 2 d2 rfl
  obtain ⟨v3, e3, D3⟩ := h3 3 d3 rfl
  obtain ⟨v4, e4, D4⟩ := h3 4 d4 rfl
  obtain ⟨v5, e5, D5⟩ := h3 5 d5 rfl
  obtain ⟨v6, e6, D6⟩ := h3 6 d6 rfl
  obtain ⟨v7, e7, D7⟩ := h3 7 d7 rfl
  obtain ⟨v8, e8, D8⟩ := h3 8 d8 rfl
  simp only [Nat.add_zero] at e0
  refine (wrap2_walk b o w kind (strOfL nm) v0 v1 v2 v3 v4 v5 v6 v7 v8 (by rw [cell_blk h1]; exact e0) (by rw [cell_blk h1]; exact e1) (by rw [cell_blk h1]; exact e2) (by rw [cell_blk h1]; exact e3) (by rw [cell_blk h1]; exact e4) (by rw [cell_blk h1]; exact e5) (by rw [cell_blk h1]; exact e6) (by rw [cell_blk h1]; exact e7) (by rw [cell_blk h1]; exact e8) (fun j => free_blk h1 j) (lt_of_block h1) D0.one D1.one D2.one D3.one D4.one D5.one D6.one D7.one D8.one).mono ?_
  rintro e w' ⟨rfl, rfl⟩
  refine ⟨rfl, fun x => F x ∨ x = w.heap.size + 1, ?_⟩
  have hblt := lt_of_block h1
  have hm9 := set9_mv w b o (.int .i64 kind) (.int .i64 0) (.string (strOfL nm)) (.string ⟨#[]⟩) (.slice none 0 0) (.slice none 0 0) (.slice none 0 0) (.slice (some ⟨w.heap.size + 1, 0, none⟩) 2 2) (.slice none 0 0)
  have hs9 := set9_size w b o (.int .i64 kind) (.int .i64 0) (.string (strOfL nm)) (.string ⟨#[]⟩) (.slice none 0 0) (.slice none 0 0) (.slice none 0 0) (.slice (some ⟨w.heap.size + 1, 0, none⟩) 2 2) (.slice none 0 0)
  have hb9 := set9_blk (o := o) (a0 := .int .i64 kind) (a1 := .int .i64 0) (a2 := .string (strOfL nm)) (a3 := .string ⟨#[]⟩) (a4 := .slice none 0 0) (a5 := .slice none 0 0) (a6 := .slice none 0 0) (a7 := .slice (some ⟨w.heap.size + 1, 0, none⟩) 2 2) (a8 := .slice none 0 0) h1
  generalize set9 w b o (.int .i64 kind) (.int .i64 0) (.string (strOfL nm)) (.string ⟨#[]⟩) (.slice none 0 0) (.slice none 0 0) (.slice none 0 0) (.slice (some ⟨w.heap.size + 1, 0, none⟩) 2 2) (.slice none 0 0) = W9 at *
  have hm := ((hm9.trans (Mv.alloc (fun _ => False) W9 (.cells #[v0, v1, v2, v3, v4, v5, v6, v7, v8] 41)) (fun _ h => h.elim)).trans (Mv.alloc (fun _ => False) _ (.cells #[v0, v1, v2, v3, v4, v5, v6, v7, v8, .int .i64 0, .int .i64 0, .string ⟨#[]⟩, .string ⟨#[]⟩, .slice none 0 0, .slice none 0 0, .slice none 0 0, .slice none 0 0, .slice none 0 0] 41)) (fun _ h => h.elim)).trans (Mv.drew (fun _ => False) _) (fun _ h => h.elim)
  have hg : (((W9.alloc (.cells #[v0, v1, v2, v3, v4, v5, v6, v7, v8] 41)).alloc (.cells #[v0, v1, v2, v3, v4, v5, v6, v7, v8, .int .i64 0, .int .i64 0, .string ⟨#[]⟩, .string ⟨#[]⟩, .slice none 0 0, .slice none 0 0, .slice none 0 0, .slice none 0 0, .slice none 0 0] 41)).drew).heap[w.heap.size + 1]? = some (.cells #[v0, v1, v2, v3, v4, v5, v6, v7, v8, .int .i64 0, .int .i64 0, .string ⟨#[]⟩, .string ⟨#[]⟩, .slice none 0 0, .slice none 0 0, .slice none 0 0, .slice none 0 0, .slice none 0 0] 41 (0, 0)) := by
    have := heap_alloc_new (W9.alloc (.cells #[v0, v1, v2, v3, v4, v5, v6, v7, v8] 41)) (.cells #[v0, v1, v2, v3, v4, v5, v6, v7, v8, .int .i64 0, .int .i64 0, .string ⟨#[]⟩, .string ⟨#[]⟩, .slice none 0 0, .slice none 0 0, .slice none 0 0, .slice none 0 0, .slice none 0 0] 41)
    rw [show (W9.alloc (.cells #[v0, v1, v2, v3, v4, v5, v6, v7, v8] 41)).heap.size = w.heap.size + 1 by simp [hs9]] at this
    exact this
  have hb : (((W9.alloc (.cells #[v0, v1, v2, v3, v4, v5, v6, v7, v8] 41)).alloc (.cells #[v0, v1, v2, v3, v4, v5, v6, v7, v8, .int .i64 0, .int .i64 0, .string ⟨#[]⟩, .string ⟨#[]⟩, .slice none 0 0, .slice none 0 0, .slice none 0 0, .slice none 0 0, .slice none 0 0] 41)).drew).heap[b]? = some (.cells (put9 cs o (.int .i64 kind) (.int .i64 0) (.string (strOfL nm)) (.string ⟨#[]⟩) (.slice none 0 0) (.slice none 0 0) (.slice none 0 0) (.slice (some ⟨w.heap.size + 1, 0, none⟩) 2 2) (.slice none 0 0)) t (0, 0)) :=
    (Mv.drew (fun _ => False) _).heap ((Mv.alloc (fun _ => False) _ _).heap ((Mv.alloc (fun _ => False) _ _).heap hb9 id) id) id
  have hsz : w.heap.size + 1 < (((W9.alloc (.cells #[v0, v1, v2, v3, v4, v5, v6, v7, v8] 41)).alloc (.cells #[v0, v1, v2, v3, v4, v5, v6, v7, v8, .int .i64 0, .int .i64 0, .string ⟨#[]⟩, .string ⟨#[]⟩, .slice none 0 0, .slice none 0 0, .slice none 0 0, .slice none 0 0, .slice none 0 0] 41)).drew).heap.size := lt_of_block hg
  generalize (((W9.alloc (.cells #[v0, v1, v2, v3, v4, v5, v6, v7, v8] 41)).alloc (.cells #[v0, v1, v2, v3, v4, v5, v6, v7, v8, .int .i64 0, .int .i64 0, .string ⟨#[]⟩, .string ⟨#[]⟩, .slice none 0 0, .slice none 0 0, .slice none 0 0, .slice none 0 0, .slice none 0 0] 41)).drew) = W at *
  have hkeep : ∀ {v d} {q : Nat}, DIs ty w (fp q) v d → DIs ty W F v d := fun {v d q} hd => (hd.kept fun x hx hlt => hm.block x hlt fun e => h.cur.nb (by rw [← show x = b from e]; exact h4 q x hx)).mono (h4 q)
  refine h.anew (fp := fun j x => j = 7 ∧ (F x ∨ x = w.heap.size + 1)) h1 hm hb (fun j hj => put9_out _ _ _ _ _ _ _ _ _ _ _ j hj) (by rw [put9_size]; exact h2) rfl (fun j d hd => ?_) (fun j x hx => hx.2) (fun j j' x hx hx' => hx.1.trans hx'.1.symm) (fun x hx => hx.elim .inl (fun e => .inr (by omega)))
  have hput := put9_in cs o (.int .i64 kind) (.int .i64 0) (.string (strOfL nm)) (.string ⟨#[]⟩) (.slice none 0 0) (.slice none 0 0) (.slice none 0 0) (.slice (some ⟨w.heap.size + 1, 0, none⟩) 2 2) (.slice none 0 0) (by simp at hroom; omega)
  have hj : j < 9 := (List.getElem?_eq_some_iff.1 hd).1
  have hcases : j = 0 ∨ j = 1 ∨ j = 2 ∨ j = 3 ∨ j = 4 ∨ j = 5 ∨ j = 6 ∨ j = 7 ∨ j = 8 := by omega
  rcases hcases with rfl | rfl | rfl | rfl | rfl | rfl | rfl | rfl | rfl
  all_goals (simp only [List.getElem?_cons_zero, List.getElem?_cons_succ, Option.some.injEq] at hd; subst hd; refine ⟨_, hput _ _ rfl, ?_⟩)
  · exact .num _ _
  · exact .num _ _
  · exact .str _ _
  · exact .str _ []
  · exact .nil _ _
  · exact .nil _ _
  · exact .nil _ _
  · refine DIs.of_block (t := .ast) (els := [[d0, d1, d2, d3, d4, d5, d6, d7, d8], zAst]) (Fe := F) hg (by simp) (Nat.le_refl _) (by unfold maxLen; decide) rfl (fun e he => ?_) ⟨rfl, .inr rfl⟩ (fun x hx => ⟨⟨rfl, .inl hx⟩, by have := h.cur.lt x hx; omega⟩) (fun p d hp => ?_)
    · simp at he
      rcases he with rfl | rfl <;> rfl
    · have hp9 : p < 18 := (List.getElem?_eq_some_iff.1 hp).1
      have hpc : p = 0 ∨ p = 1 ∨ p = 2 ∨ p = 3 ∨ p = 4 ∨ p = 5 ∨ p = 6 ∨ p = 7 ∨ p = 8 ∨ p = 9 ∨ p = 10 ∨ p = 11 ∨ p = 12 ∨ p = 13 ∨ p = 14 ∨ p = 15 ∨ p = 16 ∨ p = 17 := by omega
      rcases hpc with rfl | rfl | rfl | rfl | rfl | rfl | rfl | rfl | rfl | rfl | rfl | rfl | rfl | rfl | rfl | rfl | rfl | rfl
      · obtain rfl : d0 = d := Option.some.inj hp
        exact ⟨_, rfl, hkeep D0⟩
      · obtain rfl : d1 = d := Option.some.inj hp
        exact ⟨_, rfl, hkeep D1⟩
      · obtain rfl : d2 = d := Option.some.inj hp
        exact ⟨_, rfl, hkeep D2⟩
      · obtain rfl : d3 = d := Option.some.inj hp
        exact ⟨_, rfl, hkeep D3⟩
      · obtain rfl : d4 = d := Option.some.inj hp
        exact ⟨_, rfl, hkeep D4⟩
      · obtain rfl : d5 = d := Option.some.inj hp
        exact ⟨_, rfl, hkeep D5⟩
      · obtain rfl : d6 = d := Option.some.inj hp
        exact ⟨_, rfl, hkeep D6⟩
      · obtain rfl : d7 = d := Option.some.inj hp
        exact ⟨_, rfl, hkeep D7⟩
      · obtain rfl : d8 = d := Option.some.inj hp
        exact ⟨_, rfl, hkeep D8⟩
      · obtain rfl : (D.num 0) = d := Option.some.inj hp
        exact ⟨_, rfl, .num _ _⟩
      · obtain rfl : (D.num 0) = d := Option.some.inj hp
        exact ⟨_, rfl, .num _ _⟩
      · obtain rfl : (D.str []) = d := Option.some.inj hp
        exact ⟨_, rfl, .str _ []⟩
      · obtain rfl : (D.str []) = d := Option.some.inj hp
        exact ⟨_, rfl, .str _ []⟩
      · obtain rfl : (D.row .str []) = d := Option.some.inj hp
        exact ⟨_, rfl, .nil _ _⟩
      · obtain rfl : (D.row .ast []) = d := Option.some.inj hp
        exact ⟨_, rfl, .nil _ _⟩
      · obtain rfl : (D.row .bool []) = d := Option.some.inj hp
        exact ⟨_, rfl, .nil _ _⟩
      · obtain rfl : (D.row .ast []) = d := Option.some.inj hp
        exact ⟨_, rfl, .nil _ _⟩
      · obtain rfl : (D.row .arg []) = d := Option.some.inj hp
        exact ⟨_, rfl, .nil _ _⟩
  · exact .nil _ _

set_option maxHeartbeats 8000000 in
set_option maxRecDepth 100000 in
theorem wrap3_walk (b o : Nat) (w : World) (kind : Int) (nm : ByteArray) (v0 v1 v2 v3 v4 v5 v6 v7 v8 : Value)
    (c0 : w.cell? ⟨b, o, none⟩ = some v0) (c1 : w.cell? ⟨b, o + 1, none⟩ = some v1) (c2 : w.cell? ⟨b, o + 2, none⟩ = some v2) (c3 : w.cell? ⟨b, o + 3, none⟩ = some v3) (c4 : w.cell? ⟨b, o + 4, none⟩ = some v4) (c5 : w.cell? ⟨b, o + 5, none⟩ = some v5) (c6 : w.cell? ⟨b, o + 6, none⟩ = some v6) (c7 : w.cell? ⟨b, o + 7, none⟩ = some v7) (c8 : w.cell? ⟨b, o + 8, none⟩ = some v8)
    (hf : ∀ j, w.frozen? ⟨b, j, none⟩ = false) (hblt : b < w.heap.size) (o0 : v0.oneCell' = true) (o1 : v1.oneCell' = true) (o2 : v2.oneCell' = true) (o3 : v3.oneCell' = true) (o4 : v4.oneCell' = true) (o5 : v5.oneCell' = true) (o6 : v6.oneCell' = true) (o7 : v7.oneCell' = true) (o8 : v8.oneCell' = true) :
    Calls Tryz.prog 66 #[.pointer (some ⟨b, o, none⟩), .int .i64 kind, .string nm, .int .i64 3] w fun e w' => e = .returned (.tuple #[]) ∧
      w' = (((set9 w b o (.int .i64 kind) (.int .i64 0) (.string nm) (.string ⟨#[]⟩) (.slice none 0 0) (.slice none 0 0) (.slice none 0 0) (.slice (some ⟨w.heap.size + 1, 0, none⟩) 3 3) (.slice none 0 0)).alloc (.cells #[v0, v1, v2, v3, v4, v5, v6, v7, v8] 41)).alloc
        (.cells #[v0, v1, v2, v3, v4, v5, v6, v7, v8, .int .i64 0, .int .i64 0, .string ⟨#[]⟩, .string ⟨#[]⟩, .slice none 0 0, .slice none 0 0, .slice none 0 0, .slice none 0 0, .slice none 0 0, .int .i64 0, .int .i64 0, .string ⟨#[]⟩, .string ⟨#[]⟩, .slice none 0 0, .slice none 0 0, .slice none 0 0, .slice none 0 0, .slice none 0 0] 41)).drew := by
  have s0 := fun (a : Addr) (w : World) => run_store Tryz.prog w a v0 .plain o0
  have s1 := fun (a : Addr) (w : World) => run_store Tryz.prog w a v1 .plain o1
  have s2 := fun (a : Addr) (w : World) => run_store Tryz.prog w a v2 .plain o2
  have s3 := fun (a : Addr) (w : World) => run_store Tryz.prog w a v3 .plain o3
  have s4 := fun (a : Addr) (w : World) => run_store Tryz.prog w a v4 .plain o4
  have s5 := fun (a : Addr) (w : World) => run_store Tryz.prog w a v5 .plain o5
  have s6 := fun (a : Addr) (w : World) => run_store Tryz.prog w a v6 .plain o6
  have s7 := fun (a : Addr) (w : World) => run_store Tryz.prog w a v7 .plain o7
  have s8 := fun (a : Addr) (w : World) => run_store Tryz.prog w a v8 .plain o8
  have hmk : ∀ W : World, (Instr.makeSlice 35 (.int .i64 3) (.int .i64 3)).run Tryz.prog W = .ok (.slice (some ⟨W.heap.size, 0, none⟩) 3 3) (W.alloc (.cells #[.int .i64 0, .int .i64 0, .string ⟨#[]⟩, .string ⟨#[]⟩, .slice none 0 0, .slice none 0 0, .slice none 0 0, .slice none 0 0, .slice none 0 0, .int .i64 0, .int .i64 0, .string ⟨#[]⟩, .string ⟨#[]⟩, .slice none 0 0, .slice none 0 0, .slice none 0 0, .slice none 0 0, .slice none 0 0, .int .i64 0, .int .i64 0, .string ⟨#[]⟩, .string ⟨#[]⟩, .slice none 0 0, .slice none 0 0, .slice none 0 0, .slice none 0 0, .slice none 0 0] 41)) := fun W => make_asts 3 zA3 (by decide) (by kernel_rfl) W
  go_enter Tryz.func66, Tryz.ntmps66
  go_wp2_with fail
  go_region
  go_wp2_with fail
  exact bodyPost_end (results_none rfl _ _ _) rfl ⟨rfl, rfl⟩

set_option maxHeartbeats 2000000 in
theorem wrap3_any {E : Env} {w0 w : World} {F0 F : Nat → Prop} {b : Nat} {t : TypeId} {N o i : Nat} {ds : List D} (h : St E w0 F0 b t N o 9 w F i ds) (kind : Int) (nm : List UInt8) :
    Calls Tryz.prog 66 #[.pointer (some ⟨b, o, none⟩), .int .i64 kind, .string (strOfL nm), .int .i64 3] w fun e w' => e = .returned (.tuple #[]) ∧
      ∃ F', St E w0 F0 b t N o 9 w' F' i [.num kind, .num 0, .str nm, .str [], .row .str [], .row .ast [], .row .bool [], .row .ast [ds, zAst, zAst], .row .arg []] := by
  obtain ⟨cs, fp, h1, h2, h3, h4, h5⟩ := h.cur.ex
  have hroom := h.cur.room
  have hlen := h.len
  obtain ⟨d0, d1, d2, d3, d4, d5, d6, d7, d8, rfl⟩ := len9 hlen
  obtain ⟨v0, e0, D0⟩ := h3 0 d0 rfl
  obtain ⟨v1, e1, D1⟩ := h3 1 d1 rfl
  obtain ⟨v2, e2, D2⟩ := h3 2 d2 rfl
  obtain ⟨v3, e3, D3⟩ := h3 3 d3 rfl
  obtain ⟨v4, e4, D4⟩ := h3 4 d4 rfl
  obtain ⟨v5, e5, D5⟩ := h3 5 d5 rfl
  obtain ⟨v6, e6, D6⟩ := h3 6 d6 rfl
  obtain ⟨v7, e7, D7⟩ := h3 7 d7 rfl
  obtain ⟨v8, e8, D8⟩ := h3 8 d8 rfl
  simp only [Nat.add_zero] at e0
  refine (wrap3_walk b o w kind (strOfL nm) v0 v1 v2 v3 v4 v5 v6 v7 v8 (by rw [cell_blk h1]; exact e0) (by rw [cell_blk h1]; exact e1) (by rw [cell_blk h1]; exact e2) (by rw [cell_blk h1]; exact e3) (by rw [cell_blk h1]; exact e4) (by rw [cell_blk h1]; exact e5) (by rw [cell_blk h1]; exact e6) (by rw [cell_blk h1]; exact e7) (by rw [cell_blk h1]; exact e8) (fun j => free_blk h1 j) (lt_of_block h1) D0.one D1.one D2.one D3.one D4.one D5.one D6.one D7.one D8.one).mono ?_
  rintro e w' ⟨rfl, rfl⟩
  refine ⟨rfl, fun x => F x ∨ x = w.heap.size + 1, ?_⟩
  have hblt := lt_of_block h1
  have hm9 := set9_mv w b o (.int .i64 kind) (.int .i64 0) (.string (strOfL nm)) (.string ⟨#[]⟩) (.slice none 0 0) (.slice none 0 0) (.slice none 0 0) (.slice (some ⟨w.heap.size + 1, 0, none⟩) 3 3) (.slice none 0 0)
  have hs9 := set9_size w b o (.int .i64 kind) (.int .i64 0) (.string (strOfL nm)) (.string ⟨#[]⟩) (.slice none 0 0) (.slice none 0 0) (.slice none 0 0) (.slice (some ⟨w.heap.size + 1, 0, none⟩) 3 3) (.slice none 0 0)
  have hb9 := set9_blk (o := o) (a0 := .int .i64 kind) (a1 := .int .i64 0) (a2 := .string (strOfL nm)) (a3 := .string ⟨#[]⟩) (a4 := .slice none 0 0) (a5 := .slice none 0 0) (a6 := .slice none 0 0) (a7 := .slice (some ⟨w.heap.size + 1, 0, none⟩) 3 3) (a8 := .slice none 0 0) h1
  generalize set9 w b o (.int .i64 kind) (.int .i64 0) (.string (strOfL nm)) (.string ⟨#[]⟩) (.slice none 0 0) (.slice none 0 0) (.slice none 0 0) (.slice (some ⟨w.heap.size + 1, 0, none⟩) 3 3) (.slice none 0 0) = W9 at *
  have hm := ((hm9.trans (Mv.alloc (fun _ => False) W9 (.cells #[v0, v1, v2, v3, v4, v5, v6, v7, v8] 41)) (fun _ h => h.elim)).trans (Mv.alloc (fun _ => False) _ (.cells #[v0, v1, v2, v3, v4, v5, v6, v7, v8, .int .i64 0, .int .i64 0, .string ⟨#[]⟩, .string ⟨#[]⟩, .slice none 0 0, .slice none 0 0, .slice none 0 0, .slice none 0 0, .slice none 0 0, .int .i64 0, .int .i64 0, .string ⟨#[]⟩, .string ⟨#[]⟩, .slice none 0 0, .slice none 0 0, .slice none 0 0, .slice none 0 0, .slice none 0 0] 41)) (fun _ h => h.elim)).trans (Mv.drew (fun _ => False) _) (fun _ h => h.elim)
  have hg : (((W9.alloc (.cells #[v0, v1, v2, v3, v4, v5, v6, v7, v8] 41)).alloc (.cells #[v0, v1, v2, v3, v4, v5, v6, v7, v8, .int .i64 0, .int .i64 0, .string ⟨#[]⟩, .string ⟨#[]⟩, .slice none 0 0, .slice none 0 0, .slice none 0 0, .slice none 0 0, .slice none 0 0, .int .i64 0, .int .i64 0, .string ⟨#[]⟩, .string ⟨#[]⟩, .slice none 0 0, .slice none 0 0, .slice none 0 0, .slice none 0 0, .slice none 0 0] 41)).drew).heap[w.heap.size + 1]? = some (.cells #[v0, v1, v2, v3, v4, v5, v6, v7, v8, .int .i64 0, .int .i64 0, .string ⟨#[]⟩, .string ⟨#[]⟩, .slice none 0 0, .slice none 0 0, .slice none 0 0, .slice none 0 0, .slice none 0 0, .int .i64 0, .int .i64 0, .string ⟨#[]⟩, .string ⟨#[]⟩, .slice none 0 0, .slice none 0 0, .slice none 0 0, .slice none 0 0, .slice none 0 0] 41 (0, 0)) := by
    have := heap_alloc_new (W9.alloc (.cells #[v0, v1, v2, v3, v4, v5, v6, v7, v8] 41)) (.cells #[v0, v1, v2, v3, v4, v5, v6, v7, v8, .int .i64 0, .int .i64 0, .string ⟨#[]⟩, .string ⟨#[]⟩, .slice none 0 0, .slice none 0 0, .slice none 0 0, .slice none 0 0, .slice none 0 0, .int .i64 0, .int .i64 0, .string ⟨#[]⟩, .string ⟨#[]⟩, .slice none 0 0, .slice none 0 0, .slice none 0 0, .slice none 0 0, .slice none 0 0] 41)
    rw [show (W9.alloc (.cells #[v0, v1, v2, v3, v4, v5, v6, v7, v8] 41)).heap.size = w.heap.size + 1 by simp [hs9]] at this
    exact this
  have hb : (((W9.alloc (.cells #[v0, v1, v2, v3, v4, v5, v6, v7, v8] 41)).alloc (.cells #[v0, v1, v2, v3, v4, v5, v6, v7, v8, .int .i64 0, .int .i64 0, .string ⟨#[]⟩, .string ⟨#[]⟩, .slice none 0 0, .slice none 0 0, .slice none 0 0, .slice none 0 0, .slice none 0 0, .int .i64 0, .int .i64 0, .string ⟨#[]⟩, .string ⟨#[]⟩, .slice none 0 0, .slice none 0 0, .slice none 0 0, .slice none 0 0, .slice none 0 0] 41)).drew).heap[b]? = some (.cells (put9 cs o (.int .i64 kind) (.int .i64 0) (.string (strOfL nm)) (.string ⟨#[]⟩) (.slice none 0 0) (.slice none 0 0) (.slice none 0 0) (.slice (some ⟨w.heap.size + 1, 0, none⟩) 3 3) (.slice none 0 0)) t (0, 0)) :=
    (Mv.drew (fun _ => False) _).heap ((Mv.alloc (fun _ => False) _ _).heap ((Mv.alloc (fun _ => False) _ _).heap hb9 id) id) id
  have hsz : w.heap.size + 1 < (((W9.alloc (.cells #[v0, v1, v2, v3, v4, v5, v6, v7, v8] 41)).alloc (.cells #[v0, v1, v2, v3, v4, v5, v6, v7, v8, .int .i64 0, .int .i64 0, .string ⟨#[]⟩, .string ⟨#[]⟩, .slice none 0 0, .slice none 0 0, .slice none 0 0, .slice none 0 0, .slice none 0 0, .int .i64 0, .int .i64 0, .string ⟨#[]⟩, .string ⟨#[]⟩, .slice none 0 0, .slice none 0 0, .slice none 0 0, .slice none 0 0, .slice none 0 0] 41)).drew).heap.size := lt_of_block hg
  generalize (((W9.alloc (.cells #[v0, v1, v2, v3, v4, v5, v6, v7, v8] 41)).alloc (.cells #[v0, v1, v2, v3, v4, v5, v6, v7, v8, .int .i64 0, .int .i64 0, .string ⟨#[]⟩, .string ⟨#[]⟩, .slice none 0 0, .slice none 0 0, .slice none 0 0, .slice none 0 0, .slice none 0 0, .int .i64 0, .int .i64 0, .string ⟨#[]⟩, .string ⟨#[]⟩, .slice none 0 0, .slice none 0 0, .slice none 0 0, .slice none 0 0, .slice none 0 0] 41)).drew) = W at *
  have hkeep : ∀ {v d} {q : Nat}, DIs ty w (fp q) v d → DIs ty W F v d := fun {v d q} hd => (hd.kept fun x hx hlt => hm.block x hlt fun e => h.cur.nb (by rw [← show x = b from e]; exact h4 q x hx)).mono (h4 q)
  refine h.anew (fp := fun j x => j = 7 ∧ (F x ∨ x = w.heap.size + 1)) h1 hm hb (fun j hj => put9_out _ _ _ _ _ _ _ _ _ _ _ j hj) (by rw [put9_size]; exact h2) rfl (fun j d hd => ?_) (fun j x hx => hx.2) (fun j j' x hx hx' => hx.1.trans hx'.1.symm) (fun x hx => hx.elim .inl (fun e => .inr (by omega)))
  have hput := put9_in cs o (.int .i64 kind) (.int .i64 0) (.string (strOfL nm)) (.string ⟨#[]⟩) (.slice none 0 0) (.slice none 0 0) (.slice none 0 0) (.slice (some ⟨w.heap.size + 1, 0, none⟩) 3 3) (.slice none 0 0) (by simp at hroom; omega)
  have hj : j < 9 := (List.getElem?_eq_some_iff.1 hd).1
  have hcases : j = 0 ∨ j = 1 ∨ j = 2 ∨ j = 3 ∨ j = 4 ∨ j = 5 ∨ j = 6 ∨ j = 7 ∨ j = 8 := by omega
  rcases hcases with rfl | rfl | rfl | rfl | rfl | rfl | rfl | rfl | rfl
  all_goals (simp only [List.getElem?_cons_zero, List.getElem?_cons_succ, Option.some.injEq] at hd; subst hd; refine ⟨_, hput _ _ rfl, ?_⟩)
  · exact .num _ _
  · exact .num _ _
  · exact .str _ _
  · exact .str _ []
  · exact .nil _ _
  · exact .nil _ _
  · exact .nil _ _
  · refine DIs.of_block (t := .ast) (els := [[d0, d1, d2, d3, d4, d5, d6, d7, d8], zAst, zAst]) (Fe := F) hg (by simp) (Nat.le_refl _) (by unfold maxLen; decide) rfl (fun e he => ?_) ⟨rfl, .inr rfl⟩ (fun x hx => ⟨⟨rfl, .inl hx⟩, by have := h.cur.lt x hx; omega⟩) (fun p d hp => ?_)
    · simp at he
      rcases he with rfl | rfl <;> rfl
    · have hp9 : p < 27 := (List.getElem?_eq_some_iff.1 hp).1
      have hpc : p = 0 ∨ p = 1 ∨ p = 2 ∨ p = 3 ∨ p = 4 ∨ p = 5 ∨ p = 6 ∨ p = 7 ∨ p = 8 ∨ p = 9 ∨ p = 10 ∨ p = 11 ∨ p = 12 ∨ p = 13 ∨ p = 14 ∨ p = 15 ∨ p = 16 ∨ p = 17 ∨ p = 18 ∨ p = 19 ∨ p = 20 ∨ p = 21 ∨ p = 22 ∨ p = 23 ∨ p = 24 ∨ p = 25 ∨ p = 26 := by omega
      rcases hpc with rfl | rfl | rfl | rfl | rfl | rfl | rfl | rfl | rfl | rfl | rfl | rfl | rfl | rfl | rfl | rfl | rfl | rfl | rfl | rfl | rfl | rfl | rfl | rfl | rfl | rfl | rfl
      · obtain rfl : d0 = d := Option.some.inj hp
        exact ⟨_, rfl, hkeep D0⟩
      · obtain rfl : d1 = d := Option.some.inj hp
        exact ⟨_, rfl, hkeep D1⟩
      · obtain rfl : d2 = d := Option.some.inj hp
        exact ⟨_, rfl, hkeep D2⟩
      · obtain rfl : d3 = d := Option.some.inj hp
        exact ⟨_, rfl, hkeep D3⟩
      · obtain rfl : d4 = d := Option.some.inj hp
        exact ⟨_, rfl, hkeep D4⟩
      · obtain rfl : d5 = d := Option.some.inj hp
        exact ⟨_, rfl, hkeep D5⟩
      · obtain rfl : d6 = d := Option.some.inj hp
        exact ⟨_, rfl, hkeep D6⟩
      · obtain rfl : d7 = d := Option.some.inj hp
        exact ⟨_, rfl, hkeep D7⟩
      · obtain rfl : d8 = d := Option.some.inj hp
        exact ⟨_, rfl, hkeep D8⟩
      · obtain rfl : (D.num 0) = d := Option.some.inj hp
        exact ⟨_, rfl, .num _ _⟩
      · obtain rfl : (D.num 0) = d := Option.some.inj hp
        exact ⟨_, rfl, .num _ _⟩
      · obtain rfl : (D.str []) = d := Option.some.inj hp
        exact ⟨_, rfl, .str _ []⟩
      · obtain rfl : (D.str []) = d := Option.some.inj hp
        exact ⟨_, rfl, .str _ []⟩
      · obtain rfl : (D.row .str []) = d := Option.some.inj hp
        exact ⟨_, rfl, .nil _ _⟩
      · obtain rfl : (D.row .ast []) = d := Option.some.inj hp
        exact ⟨_, rfl, .nil _ _⟩
      · obtain rfl : (D.row .bool []) = d := Option.some.inj hp
        exact ⟨_, rfl, .nil _ _⟩
      · obtain rfl : (D.row .ast []) = d := Option.some.inj hp
        exact ⟨_, rfl, .nil _ _⟩
      · obtain rfl : (D.row .arg []) = d := Option.some.inj hp
        exact ⟨_, rfl, .nil _ _⟩
      · obtain rfl : (D.num 0) = d := Option.some.inj hp
        exact ⟨_, rfl, .num _ _⟩
      · obtain rfl : (D.num 0) = d := Option.some.inj hp
        exact ⟨_, rfl, .num _ _⟩
      · obtain rfl : (D.str []) = d := Option.some.inj hp
        exact ⟨_, rfl, .str _ []⟩
      · obtain rfl : (D.str []) = d := Option.some.inj hp
        exact ⟨_, rfl, .str _ []⟩
      · obtain rfl : (D.row .str []) = d := Option.some.inj hp
        exact ⟨_, rfl, .nil _ _⟩
      · obtain rfl : (D.row .ast []) = d := Option.some.inj hp
        exact ⟨_, rfl, .nil _ _⟩
      · obtain rfl : (D.row .bool []) = d := Option.some.inj hp
        exact ⟨_, rfl, .nil _ _⟩
      · obtain rfl : (D.row .ast []) = d := Option.some.inj hp
        exact ⟨_, rfl, .nil _ _⟩
      · obtain rfl : (D.row .arg []) = d := Option.some.inj hp
        exact ⟨_, rfl, .nil _ _⟩
  · exact .nil _ _

end Go.Proofs.YthmdgbmodgfcmaaGreatDoor
