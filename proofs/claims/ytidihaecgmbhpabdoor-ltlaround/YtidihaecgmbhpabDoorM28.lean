/-
  VWrite.
-/
import Derived.Test.YtidihaecgmbhpabDoorM26
import Derived.Test.YtidihaecgmbhpabDoorM27
/-
  What the program's write gives.
-/
set_option linter.unusedSimpArgs false
set_option linter.unusedVariables false
namespace Go.Proofs.YtidihaecgmbhpabDoor
open Go.RowKit Q

set_option maxHeartbeats 4000000 in
theorem attempt_write' (caps : Array Value) (w : World) (S : Nat → Prop) (R : Option (Nat × Nat) → World → Prop) (hS : ∀ x, S x → x < w.heap.size) (hF : ∀ W, Nu w W → W.heap.size = w.heap.size + 1 → W.heap[w.heap.size]? = some (.cells #[.int .i64 0, .int .i64 0] 34 (0, 0)) → Does 47 caps W S R)
    (hRm : ∀ r W W', R r W → Mv (fun x => w.heap.size = x) W W' → R r W') :
    Calls Tryd.prog 32 #[.func (.func 47) #[] caps] w fun e w' => Mv S w w' ∧ ∃ r, e = .returned (.agg #[.int .i64 ((misOf r).1 : Int), .int .i64 ((misOf r).2 : Int)]) ∧ R r w' := by
  have HF := hid hF
  have HS := hid hS
  have HRm := hid hRm
  clear hF hS hRm
  go_enter_defers Tryd.func32, Tryd.ntmps32
  go_wp2_with fail
  have hM1 : Nu w (w.alloc (.cells #[.int .i64 0, .int .i64 0] 34)) := Mv.alloc _ _ _
  have hb1 := heap_alloc_new w (.cells #[.int .i64 0, .int .i64 0] 34)
  refine Calls.mono (HF.out _ hM1 (by simp) hb1) ?_
  rintro e w2 ⟨hm2, h2⟩
  have hb2 := hm2.heap hb1 (fun e => Nat.lt_irrefl _ (HS.out _ e))
  have HM2 : Hid (Mv S w w2) := (hM1.mono (fun _ h => h.elim)).trans hm2 (fun _ h => .inl h)
  clear hM1 hb1 hm2
  rcases h2 with ⟨rfl, hr⟩ | ⟨c, q, rfl, hr⟩
  · have c0 : w2.cell? ⟨w.heap.size, 0, none⟩ = some (.int .i64 0) := by rw [cell_blk hb2]; rfl
    have c1 : w2.cell? ⟨w.heap.size, 1, none⟩ = some (.int .i64 0) := by rw [cell_blk hb2]; rfl
    have f0 := free_blk hb2 0
    have f1 := free_blk hb2 1
    have HB2 := hid hb2
    have HR := hid hr
    clear hb2 hr
    go_wp2_with fail
    obtain ⟨h3, h4⟩ := set2 HB2.out (.int .i64 0) (.int .i64 0)
    generalize hW3 : World.setCell _ _ _ = W3 at h3 h4 ⊢
    refine att_ret h4 rfl ?_
    exact ⟨HM2.out.trans h3 (fun x hx => .inr (by omega)), none, rfl, HRm.out none w2 W3 HR.out (h3.mono (fun x hx => .inl hx.symm))⟩
  · exact att_thrown hb2 rfl (fun w5 hm5 => ⟨HM2.out.trans hm5 (fun x hx => .inr (by omega)), some (c, q), rfl, HRm.out _ w2 w5 hr (hm5.mono (fun x hx => .inl hx.symm))⟩)


/-- What is written. -/
def wrt (f : F) : Wd × Nat := if 4096 < f.text.length then ([], 2) else (f.text, 0)

theorem FAt.up {w : World} {B B' pb po : Nat} {f : F} (h : FAt w B pb po f) (hB : B ≤ B') : FAt w B' pb po f := by
  obtain ⟨c0, c1, c2, h0, h1, h2, h3⟩ := h.ex
  exact ⟨h.gl, Nat.le_trans h.b3 hB, by have := h.lt; omega, c0, c1, c2, h0, h1, h2, h3.mono (fun x hx _ => by omega)⟩

/-- What stands behind the attempt. -/
def WrR (B wb sz : Nat) (f : F) : Option (Nat × Nat) → World → Prop
  | none, W => wrt f = (f.text, 0) ∧ ∃ v, W.heap[wb]? = some (.cells #[v] 98 (0, 0)) ∧ W.ownsRowF B 5 1 v f.text.length (Lib.strCells (strOfL f.text)) ∧ v.ownBlock ≠ some sz
  | some x, _ => x = (2, 0) ∧ wrt f = ([], 2)

theorem WrR.mv {B wb sz : Nat} {f : F} (hwb : wb ≠ sz) {r : Option (Nat × Nat)} {W W' : World} (h : WrR B wb sz f r W) (hm : Mv (fun x => sz = x) W W') : WrR B wb sz f r W' := by
  cases r with
  | some x => exact h
  | none =>
    obtain ⟨h0, v, h1, h2, h3⟩ := h
    exact ⟨h0, v, hm.heap h1 (fun e => hwb e.symm), rowF_mv h2 hm (fun x hx e => h3 (by rw [hx, ← e])), h3⟩

set_option maxHeartbeats 2000000 in
theorem write1_any (f : F) (ho : f.ok = true) (w : World) (B wb cb pb po : Nat) (hc : w.cell? ⟨cb, 0, none⟩ = some (.pointer (some ⟨pb, po, none⟩))) (h : FAt w B pb po f) (hw : WrIs w B wb []) :
    WC 47 #[.pointer (some ⟨wb, 0, none⟩), .pointer (some ⟨cb, 0, none⟩)] w B wb [] f.text := by
  have HC := hid (form_all f ho w B wb [] pb po h hw)
  clear h hw
  unfold WC
  by_cases hf : ([] : Wd).length + f.text.length ≤ 4096
  · have HC1 := hid (HC.out.fit hf)
    go_enter Tryd.func47, Tryd.ntmps47
    go_wp2_with (go_at_call 48; refine Calls.mono HC1.out ?_; rintro e w1 ⟨rfl, hm, hw⟩; have HM := hid hm; have HW1 := hid hw; clear hm hw)
    go_end0
    exact WPost.ok HM.out HW1.out
  · have HC1 := hid (HC.out.no (by omega))
    go_enter Tryd.func47, Tryd.ntmps47
    go_wp2_with (go_at_call 48; refine Calls.mono HC1.out ?_; rintro e w1 ⟨rfl, hm⟩; have HM := hid hm; clear hm)
    exact ⟨rfl, WPost.no HM.out (by omega)⟩

theorem string_row {w : World} {B : Nat} {s : Wd} {ao : Option Addr} {cap : Nat} (h : w.ownsRowF B 5 1 (.slice ao s.length cap) s.length (Lib.strCells (strOfL s))) :
    (convert 96 9 (.slice ao s.length cap)).run Tryd.prog w = .ok (.string (strOfL s)) w := by
  rcases h.2 with ⟨hv, hn⟩ | ⟨g, cap', cur, fz, hv, _⟩
  · obtain ⟨rfl, _, rfl⟩ := (by simpa using hv : ao = none ∧ _ ∧ cap = 0)
    have hb : s = [] := List.eq_nil_of_length_eq_zero hn
    subst hb
    exact run_convert_bytes_nil w 96 5 Tryd.underlying96 Tryd.underlying5 _ _ 9 Tryd.underlying9
  · obtain ⟨rfl, rfl⟩ := (by simpa using hv : ao = some ⟨g, 0, none⟩ ∧ cap = cap')
    exact run_convert_bytes_back w 96 9 5 ⟨g, 0, none⟩ cap s Tryd.underlying96 Tryd.underlying5 Tryd.underlying9 (fun j hj => h.cells rfl j _ (by simp [Lib.strCells, strOfL, List.getElem?_eq_getElem hj]))

/-- The attempt that writes. -/
theorem att_write (f : F) (ho : f.ok = true) (w : World) (B wb cb pb po : Nat) (hB : B = wb) (hcb : cb < B) (hc : w.cell? ⟨cb, 0, none⟩ = some (.pointer (some ⟨pb, po, none⟩))) (h : FAt w B pb po f) (hw : w.heap[wb]? = some (.cells #[.slice none 0 0] 98 (0, 0))) :
    Calls Tryd.prog 32 #[.func (.func 47) #[] #[.pointer (some ⟨wb, 0, none⟩), .pointer (some ⟨cb, 0, none⟩)]] w fun e w' => Mv (FpW B w) w w' ∧ ∃ r, e = .returned (.agg #[.int .i64 ((misOf r).1 : Int), .int .i64 ((misOf r).2 : Int)]) ∧ WrR B wb w.heap.size f r w' := by
  have hlt : wb < w.heap.size := lt_of_block hw
  refine attempt_write' _ w (FpW B w) (WrR B wb w.heap.size f) (fun x hx => ?_) (fun W hN hsz hb => ?_) (fun r W W' hr hm => hr.mv (by omega) hm)
  · obtain ⟨_, cs, t, m, h1, _⟩ := hx
    exact lt_of_block h1
  · have hwW : WrIs W B wb [] := ⟨⟨_, hN.heap hw id, ⟨rfl, .inl ⟨rfl, rfl⟩⟩⟩, by omega, by simp⟩
    refine Calls.mono (write1_any f ho W B wb cb pb po (cell_mv hN hc id) (h.nu hN) hwW) ?_
    rintro e w' ⟨hm, hr⟩
    refine ⟨Mv.mono hm (fun x hx => ?_), ?_⟩
    · obtain ⟨q1, cs, t, m, q2, q3⟩ := hx
      by_cases hx : x < w.heap.size
      · left
        have := hN.block x hx id
        rw [this] at q2
        exact ⟨q1, cs, t, m, q2, q3⟩
      · right
        by_cases e : x = w.heap.size
        · rw [e, hb] at q2
          cases q2
          rcases q3 with q3 | q3 <;> cases q3
        · have := lt_of_block q2
          omega
    · rcases hr with ⟨h1, rfl, h2⟩ | ⟨h1, rfl⟩
      · refine .inl ⟨rfl, ?_⟩
        obtain ⟨v, g1, g2⟩ := h2.ex
        rw [List.nil_append] at g2
        exact ⟨by unfold wrt; rw [if_neg (by simpa using h1)], v, g1, g2, Lib.ownBlock_neF g2 (Mw.keep hm hb (by decide) (by decide)) (by decide)⟩
      · exact .inr ⟨2, 0, rfl, rfl, by unfold wrt; rw [if_pos (by simpa using h1)]⟩

end Go.Proofs.YtidihaecgmbhpabDoor
