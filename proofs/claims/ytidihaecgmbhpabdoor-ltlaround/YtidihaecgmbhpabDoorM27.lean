/-
  VAtt, VParse.
-/
import Derived.Defers
import Derived.Laws.NewBlocks
import Derived.Recover
import Derived.Test.YtidihaecgmbhpabDoorM10
import Derived.Test.YtidihaecgmbhpabDoorM11
import Derived.Test.YtidihaecgmbhpabDoorM18
import Derived.Test.YtidihaecgmbhpabDoorM19
/-
  What the program's attempt does: of what returns, of what throws a refusal.
-/
set_option linter.unusedSimpArgs false
set_option linter.unusedVariables false
namespace Go.Proofs.YtidihaecgmbhpabDoor
open Go.RowKit Q

set_option maxHeartbeats 2000000 in
theorem catch_idle (p : Addr) (w : World) :
    CallsD Tryd.prog 52 #[.pointer (some p)] .returning w fun e u' w' => e = .returned (.tuple #[]) ∧ u' = .returning ∧ w' = w := by
  refine callsD_of_wpS Tryd.func52 rfl fun c₀ cs hu => ?_
  apply wpS_seq
  apply wpS_region
  simp [wpOpsS, go_sem, recoverD, hu, Tryd.ntmps52, Exit.thenS]
  refine wpS_of_wp ?_
  go_wp2
  cases c₀
  simp_all [bodyPostS, results, Tryd.results52]

@[go_sem] theorem assert_refusal (v : Value) (w : World) : (Instr.typeAssert (.iface 101 v) 20 101 true).run Tryd.prog w = .ok (.tuple #[v, .bool true]) w := by kernel_rfl
@[go_sem] theorem refusal_nil (v : Value) (w : World) : (binOp .eql 20 (.iface 101 v) .nilIface).run Tryd.prog w = .ok (.bool false) w := by kernel_rfl

set_option maxHeartbeats 2000000 in
theorem catch_thrown (b c q : Nat) (w : World) (v0 v1 : Value) (hb : w.heap[b]? = some (.cells #[v0, v1] 34 (0, 0))) :
    CallsD Tryd.prog 52 #[.pointer (some ⟨b, 0, none⟩)] (.panicking (thrown c q)) w fun e u' w' =>
      e = .returned (.tuple #[]) ∧ u' = .panicking [{ v := .iface 101 (.agg #[.int .i64 (c : Int), .int .i64 (q : Int)]), recovered := true }] ∧
        w'.heap[b]? = some (.cells #[.int .i64 (c : Int), .int .i64 (q : Int)] 34 (0, 0)) ∧ Mv (· = b) w w' := by
  have c0 : w.cell? ⟨b, 0, none⟩ = some v0 := by simpa using cell_blk hb 0
  have c1 : w.cell? ⟨b, 1, none⟩ = some v1 := by simpa using cell_blk hb 1
  have hblt : b < w.heap.size := lt_of_block hb
  have f0 := free_blk hb 0
  have f1 := free_blk hb 1
  unfold thrown
  obtain ⟨mc, hmc⟩ : ∃ x : Int, (c : Int) = x := ⟨_, rfl⟩
  obtain ⟨mk, hmk⟩ : ∃ x : Int, (q : Int) = x := ⟨_, rfl⟩
  rw [hmc, hmk]
  clear hmc hmk
  have HB : Hid (w.heap[b]? = some (.cells #[v0, v1] 34 (0, 0))) := hb
  clear hb
  refine callsD_of_wpS Tryd.func52 rfl fun c₀ cs hu => ?_
  apply wpS_seq
  apply wpS_region
  simp [wpOpsS, go_sem, recoverD, hu, Tryd.ntmps52, Exit.thenS]
  refine wpS_of_wp ?_
  go_wp2_with fail
  have hW : (((w.setCell ⟨b, 0, none⟩ (.int .i64 mc)).setCell ⟨b, 1, none⟩ (.int .i64 mk)).alloc (.cells #[.int .i64 mc, .int .i64 mk] 101)).heap[b]? = some (.cells #[.int .i64 mc, .int .i64 mk] 34 (0, 0)) :=
    (Mv.alloc (fun _ => False) _ _).heap (setCell_blk (setCell_blk HB.out)) id
  have hM : Mv (· = b) w (((w.setCell ⟨b, 0, none⟩ (.int .i64 mc)).setCell ⟨b, 1, none⟩ (.int .i64 mk)).alloc (.cells #[.int .i64 mc, .int .i64 mk] 101)) :=
    ((Mv.setCell w ⟨b, 0, none⟩ _).trans (Mv.setCell _ ⟨b, 1, none⟩ _) (fun x h => .inl h)).trans (Mv.alloc (fun _ => False) _ _) (fun _ h => h.elim)
  obtain ⟨W, hWe⟩ : ∃ W, ((w.setCell ⟨b, 0, none⟩ (.int .i64 mc)).setCell ⟨b, 1, none⟩ (.int .i64 mk)).alloc (.cells #[.int .i64 mc, .int .i64 mk] 101) = W := ⟨_, rfl⟩
  rw [hWe] at hW hM ⊢
  clear hWe
  simp [bodyPostS, results, Tryd.results52, hW, hM]

theorem resAtt {W : World} {b : Nat} {x y : Value} (h : W.heap[b]? = some (.cells #[x, y] 34 (0, 0))) {T : Array Value} (h2 : T[2]?.getD undef = .pointer (some ⟨b, 0, none⟩)) :
    (results Tryd.f32 T).run Tryd.prog W = .ok (.agg #[x, y]) W := by
  have c0 : W.cell? ⟨b, 0, none⟩ = some x := by rw [cell_blk h]; rfl
  have c1 : W.cell? ⟨b, 1, none⟩ = some y := by rw [cell_blk h]; rfl
  simp only [results, Tryd.results32]
  simp [h2, go_sem, c0, c1]

/-- What throws a refusal: it is told. -/
theorem att_thrown {w4 : World} {b c q : Nat} {x y : Value} {R : Ending → World → Prop} (h : w4.heap[b]? = some (.cells #[x, y] 34 (0, 0))) {T : Array Value} (h2 : T[2]?.getD undef = .pointer (some ⟨b, 0, none⟩))
    (hR : ∀ w5, Mv (· = b) w4 w5 → R (.returned (.agg #[.int .i64 (c : Int), .int .i64 (q : Int)])) w5) :
    bodyPostD Tryd.prog Tryd.f32 R (.panic (thrown c q)) { tmps := T, defers := [{ target := .fn (.func 52) #[.pointer (some ⟨b, 0, none⟩)], args := #[] }] } w4 := by
  refine leaves_cons (f := 52) (args := #[.pointer (some ⟨b, 0, none⟩)]) (by simp) (by simp [go_sem]) ?_
  refine (catch_thrown b c q w4 _ _ h).mono ?_
  rintro e u' w5 ⟨rfl, rfl, hb, hmv⟩
  exact ⟨_, resAtt hb h2, hR w5 hmv⟩

theorem att_ret {w4 : World} {b : Nat} {x y : Value} {R : Ending → World → Prop} (h : w4.heap[b]? = some (.cells #[x, y] 34 (0, 0))) {T : Array Value} (h2 : T[2]?.getD undef = .pointer (some ⟨b, 0, none⟩))
    (hR : R (.returned (.agg #[x, y])) w4) :
    bodyPostD Tryd.prog Tryd.f32 R .ret { tmps := T, defers := [{ target := .fn (.func 52) #[.pointer (some ⟨b, 0, none⟩)], args := #[] }] } w4 := by
  refine leaves_cons (f := 52) (args := #[.pointer (some ⟨b, 0, none⟩)]) (by simp) (by simp [go_sem]) ?_
  refine (catch_idle ⟨b, 0, none⟩ w4).mono ?_
  rintro e u' w5 ⟨rfl, rfl, rfl⟩
  exact ⟨_, resAtt h h2, hR⟩

/-- What is done: it returns, or throws a refusal; blocks such as S tells may turn. -/
def Does (F : FuncId) (caps : Array Value) (w : World) (S : Nat → Prop) (R : Option (Nat × Nat) → World → Prop) : Prop :=
  Calls Tryd.prog F caps w fun e w' => Mv S w w' ∧ ((e = .returned (.tuple #[]) ∧ R none w') ∨ ∃ c q, e = .panicked (thrown c q) ∧ R (some (c, q)) w')

def misOf : Option (Nat × Nat) → Nat × Nat
  | none => (0, 0)
  | some x => x

set_option maxHeartbeats 4000000 in
theorem attempt_read (caps : Array Value) (w : World) (S : Nat → Prop) (R : Option (Nat × Nat) → World → Prop) (hS : ∀ x, S x → x < w.heap.size) (hF : ∀ W, Nu w W → w.heap.size < W.heap.size → Does 43 caps W S R)
    (hRm : ∀ r W W', R r W → Mv (fun x => w.heap.size = x) W W' → R r W') :
    Calls Tryd.prog 32 #[.func (.func 43) #[] caps] w fun e w' => Mv S w w' ∧ ∃ r, e = .returned (.agg #[.int .i64 ((misOf r).1 : Int), .int .i64 ((misOf r).2 : Int)]) ∧ R r w' := by
  have HF := hid hF
  have HS := hid hS
  have HRm := hid hRm
  clear hF hS hRm
  go_enter_defers Tryd.func32, Tryd.ntmps32
  go_wp2_with fail
  have hM1 : Nu w (w.alloc (.cells #[.int .i64 0, .int .i64 0] 34)) := Mv.alloc _ _ _
  have hb1 := heap_alloc_new w (.cells #[.int .i64 0, .int .i64 0] 34)
  refine Calls.mono (HF.out _ hM1 (by simp)) ?_
  rintro e w2 ⟨hm2, h2⟩
  have hb2 := hm2.heap hb1 (fun e => Nat.lt_irrefl _ (HS.out _ e))
  have HM2 : Hid (Mv S w w2) := (hM1.mono (fun _ h => h.elim)).trans hm2 (fun _ h => .inl h)
  clear hM1 hb1 hm2
  rcases h2 with ⟨rfl, hr⟩ | ⟨c, q, rfl, hr⟩
  · have c0 : w2.cell? ⟨w.heap.size, 0, none⟩ = some (.int .i64 0) := by rw [cell_blk hb2]; rfl
    have c1 : w2.cell? ⟨w.heap.size, 1, none⟩ = some (.int .i64 0) := by rw [cell_blk hb2]; rfl
    have f0 := free_blk hb2 0
    have f1 := free_blk hb2 1
    have HB2 := hid hb2
    have HR := hid hr
    clear hb2 hr
    go_wp2_with fail
    obtain ⟨h3, h4⟩ := set2 HB2.out (.int .i64 0) (.int .i64 0)
    generalize hW3 : World.setCell _ _ _ = W3 at h3 h4 ⊢
    refine att_ret h4 rfl ?_
    exact ⟨HM2.out.trans h3 (fun x hx => .inr (by omega)), none, rfl, HRm.out none w2 W3 HR.out (h3.mono (fun x hx => .inl hx.symm))⟩
  · exact att_thrown hb2 rfl (fun w5 hm5 => ⟨HM2.out.trans hm5 (fun x hx => .inr (by omega)), some (c, q), rfl, HRm.out _ w2 w5 hr (hm5.mono (fun x hx => .inl hx.symm))⟩)

set_option maxHeartbeats 4000000 in
theorem attempt_write (caps : Array Value) (w : World) (S : Nat → Prop) (R : Option (Nat × Nat) → World → Prop) (hS : ∀ x, S x → x < w.heap.size) (hF : ∀ W, Nu w W → w.heap.size < W.heap.size → Does 47 caps W S R)
    (hRm : ∀ r W W', R r W → Mv (fun x => w.heap.size = x) W W' → R r W') :
    Calls Tryd.prog 32 #[.func (.func 47) #[] caps] w fun e w' => Mv S w w' ∧ ∃ r, e = .returned (.agg #[.int .i64 ((misOf r).1 : Int), .int .i64 ((misOf r).2 : Int)]) ∧ R r w' := by
  have HF := hid hF
  have HS := hid hS
  have HRm := hid hRm
  clear hF hS hRm
  go_enter_defers Tryd.func32, Tryd.ntmps32
  go_wp2_with fail
  have hM1 : Nu w (w.alloc (.cells #[.int .i64 0, .int .i64 0] 34)) := Mv.alloc _ _ _
  have hb1 := heap_alloc_new w (.cells #[.int .i64 0, .int .i64 0] 34)
  refine Calls.mono (HF.out _ hM1 (by simp)) ?_
  rintro e w2 ⟨hm2, h2⟩
  have hb2 := hm2.heap hb1 (fun e => Nat.lt_irrefl _ (HS.out _ e))
  have HM2 : Hid (Mv S w w2) := (hM1.mono (fun _ h => h.elim)).trans hm2 (fun _ h => .inl h)
  clear hM1 hb1 hm2
  rcases h2 with ⟨rfl, hr⟩ | ⟨c, q, rfl, hr⟩
  · have c0 : w2.cell? ⟨w.heap.size, 0, none⟩ = some (.int .i64 0) := by rw [cell_blk hb2]; rfl
    have c1 : w2.cell? ⟨w.heap.size, 1, none⟩ = some (.int .i64 0) := by rw [cell_blk hb2]; rfl
    have f0 := free_blk hb2 0
    have f1 := free_blk hb2 1
    have HB2 := hid hb2
    have HR := hid hr
    clear hb2 hr
    go_wp2_with fail
    obtain ⟨h3, h4⟩ := set2 HB2.out (.int .i64 0) (.int .i64 0)
    generalize hW3 : World.setCell _ _ _ = W3 at h3 h4 ⊢
    refine att_ret h4 rfl ?_
    exact ⟨HM2.out.trans h3 (fun x hx => .inr (by omega)), none, rfl, HRm.out none w2 W3 HR.out (h3.mono (fun x hx => .inl hx.symm))⟩
  · exact att_thrown hb2 rfl (fun w5 hm5 => ⟨HM2.out.trans hm5 (fun x hx => .inr (by omega)), some (c, q), rfl, HRm.out _ w2 w5 hr (hm5.mono (fun x hx => .inl hx.symm))⟩)

set_option maxHeartbeats 4000000 in
theorem attempt_normal (caps : Array Value) (w : World) (S : Nat → Prop) (R : Option (Nat × Nat) → World → Prop) (hS : ∀ x, S x → x < w.heap.size) (hF : ∀ W, Nu w W → w.heap.size < W.heap.size → Does 33 caps W S R)
    (hRm : ∀ r W W', R r W → Mv (fun x => w.heap.size = x) W W' → R r W') :
    Calls Tryd.prog 32 #[.func (.func 33) #[] caps] w fun e w' => Mv S w w' ∧ ∃ r, e = .returned (.agg #[.int .i64 ((misOf r).1 : Int), .int .i64 ((misOf r).2 : Int)]) ∧ R r w' := by
  have HF := hid hF
  have HS := hid hS
  have HRm := hid hRm
  clear hF hS hRm
  go_enter_defers Tryd.func32, Tryd.ntmps32
  go_wp2_with fail
  have hM1 : Nu w (w.alloc (.cells #[.int .i64 0, .int .i64 0] 34)) := Mv.alloc _ _ _
  have hb1 := heap_alloc_new w (.cells #[.int .i64 0, .int .i64 0] 34)
  refine Calls.mono (HF.out _ hM1 (by simp)) ?_
  rintro e w2 ⟨hm2, h2⟩
  have hb2 := hm2.heap hb1 (fun e => Nat.lt_irrefl _ (HS.out _ e))
  have HM2 : Hid (Mv S w w2) := (hM1.mono (fun _ h => h.elim)).trans hm2 (fun _ h => .inl h)
  clear hM1 hb1 hm2
  rcases h2 with ⟨rfl, hr⟩ | ⟨c, q, rfl, hr⟩
  · have c0 : w2.cell? ⟨w.heap.size, 0, none⟩ = some (.int .i64 0) := by rw [cell_blk hb2]; rfl
    have c1 : w2.cell? ⟨w.heap.size, 1, none⟩ = some (.int .i64 0) := by rw [cell_blk hb2]; rfl
    have f0 := free_blk hb2 0
    have f1 := free_blk hb2 1
    have HB2 := hid hb2
    have HR := hid hr
    clear hb2 hr
    go_wp2_with fail
    obtain ⟨h3, h4⟩ := set2 HB2.out (.int .i64 0) (.int .i64 0)
    generalize hW3 : World.setCell _ _ _ = W3 at h3 h4 ⊢
    refine att_ret h4 rfl ?_
    exact ⟨HM2.out.trans h3 (fun x hx => .inr (by omega)), none, rfl, HRm.out none w2 W3 HR.out (h3.mono (fun x hx => .inl hx.symm))⟩
  · exact att_thrown hb2 rfl (fun w5 hm5 => ⟨HM2.out.trans hm5 (fun x hx => .inr (by omega)), some (c, q), rfl, HRm.out _ w2 w5 hr (hm5.mono (fun x hx => .inl hx.symm))⟩)

end Go.Proofs.YtidihaecgmbhpabDoor
/-
  What the program's read and Parse give.
-/
set_option linter.unusedSimpArgs false
set_option linter.unusedVariables false
namespace Go.Proofs.YtidihaecgmbhpabDoor
open Go.RowKit Q

/-- What is read of words: a formula, or what is wrong and where. -/
def readR (acc : List (Wd × Nat)) (n : Nat) : Except (Nat × Nat) F := match fm (8 * acc.length + 8) 0 (acc.map (·.1)) with
  | some (.ok (t, r)) => if r.length = 0 then .ok t else .error (92, (acc.map (·.2))[acc.length - r.length]?.getD 0)
  | some (.error e) => if e = 0 then .error (91, n) else .error (92, (acc.map (·.2))[acc.length - e]?.getD 0)
  | none => .error (0, 0)

theorem err_code {acc : List (Wd × Nat)} {n i : Nat} (hi : i ≤ acc.length) : errAt acc n i = thrown (if acc.length - i = 0 then (91, n) else (92, (acc.map (·.2))[acc.length - (acc.length - i)]?.getD 0)).1 (if acc.length - i = 0 then (91, n) else (92, (acc.map (·.2))[acc.length - (acc.length - i)]?.getD 0)).2 := by
  unfold errAt
  by_cases h : acc.length - i = 0
  · rw [if_pos h, List.getElem?_eq_none (by omega)]
  · rw [if_neg h, show acc.length - (acc.length - i) = i by omega]
    rw [List.getElem?_eq_getElem (by omega)]
    simp [List.getElem?_map, List.getElem?_eq_getElem (show i < acc.length by omega)]

/-- Behind the closure. -/
def ReadW (acc : List (Wd × Nat)) (n tb A : Nat) (r : Option (Nat × Nat)) (w' : World) : Prop := match r with
  | some x => readR acc n = .error x ∧ ∃ d0 d1 d2, Cell3 d0 d1 d2 ∧ w'.heap[tb]? = some (.cells #[d0, d1, d2] 24 (0, 0))
  | none => ∃ f d0 d1 d2, readR acc n = .ok f ∧ Cell3 d0 d1 d2 ∧ w'.heap[tb]? = some (.cells #[d0, d1, d2] 24 (0, 0)) ∧ OwnT (A + 1) w' (.agg #[d0, d1, d2]) f.t

theorem ReadW.mv {acc : List (Wd × Nat)} {n tb A : Nat} {r : Option (Nat × Nat)} {w w' : World} (h : ReadW acc n tb A r w) (hm : Mv (fun x => A = x) w w') (ht : tb < A) : ReadW acc n tb A r w' := by
  cases r with
  | some x =>
    obtain ⟨h1, d0, d1, d2, h2, h3⟩ := h
    exact ⟨h1, d0, d1, d2, h2, hm.heap h3 (by omega)⟩
  | none =>
    obtain ⟨f, d0, d1, d2, h1, h2, h3, h4⟩ := h
    exact ⟨f, d0, d1, d2, h1, h2, hm.heap h3 (by omega), h4.mv hm (fun x hx _ e => by omega)⟩

set_option maxHeartbeats 4000000 in
theorem read1_any {L : List Wrd} {acc : List (Wd × Nat)} (hW : Wrs L acc) (hl : acc.length ≤ 4096) (n rb tb A : Nat) (w : World) (hR : RdIs w rb L 0 n) (hA : A < w.heap.size) (htA : tb < A) (hrt : rb < tb) (hb : w.heap[tb]? = some Z3) :
    Does 43 #[.pointer (some ⟨rb, 0, none⟩), .pointer (some ⟨tb, 0, none⟩)] w (fun x => x = rb ∨ x = tb) (ReadW acc n tb A) := by
  have hLl : L.length ≤ 4096 := by rw [hW.len]; exact hl
  have hfu := fuel0 (acc.map (·.1))
  rw [List.length_map] at hfu
  have hw0 : wds acc 0 = acc.map (·.1) := rfl
  cases h2 : fm (8 * acc.length + 8) 0 (acc.map (·.1)) with
  | none => exact absurd h2 hfu
  | some res =>
    have HC := hid ((rall (n := n) hW hl (8 * acc.length + 8) _ (Nat.le_refl _)).iff w rb 0 res hR (by omega) (by rw [hw0]; exact h2))
    have HK := hid (fun W i (hWr : RdIs W rb L i n) (hi : i ≤ acc.length) => kind_any W rb L i n hWr hLl (by omega))
    have HRf := hid (fun W i (hWr : RdIs W rb L i n) (hi : i ≤ acc.length) => refuse_err hW hl hi W hWr)
    have HKn := hid (fun i (h : kindAt L i = 0) => kind_none hW h)
    have HKs := hid (fun i (h : kindAt L i ≠ 0) => kind_some hW h)
    have H2 := hid h2
    have HB := hid hb
    have HN := hid (And.intro hA (And.intro htA hrt))
    unfold Does
    clear hR hfu hw0 h2 hb hW
    go_enter Tryd.func43, Tryd.ntmps43
    go_wp2_with fail
    refine Calls.mono HC.out ?_
    rintro e w2 ⟨hm2, hp⟩
    have hb2 := hm2.heap HB.out (by have := HN.out; omega)
    have HM2 : Hid (Mv (fun x => x = rb ∨ x = tb) w w2) := hm2.mono (fun x hx => .inl (.inl hx))
    cases res with
    | error k =>
      obtain ⟨i', g1, g2, g3, rfl⟩ := hp
      rw [err_code g2]
      refine ⟨rfl, HM2.out, .inr ⟨_, _, rfl, ?_, _, _, _, ⟨0, ⟨#[]⟩, none, 0, 0, rfl, rfl, rfl⟩, hb2⟩⟩
      unfold readR
      rw [H2.out]
      simp only
      rw [g3]
      split <;> rfl
    | ok tr =>
      obtain ⟨t, rest⟩ := tr
      obtain ⟨i', v, rfl, g1, g2, rfl, g4, g5⟩ := hp
      obtain ⟨k1, s1, ao1, l1, c1, rfl⟩ := g5.cells
      have r0 : w2.cell? ⟨tb, 0, none⟩ = some (.int .i64 0) := by rw [cell_blk hb2]; rfl
      have r1 : w2.cell? ⟨tb, 1, none⟩ = some (.string ⟨#[]⟩) := by rw [cell_blk hb2]; rfl
      have r2 : w2.cell? ⟨tb, 2, none⟩ = some (.slice none 0 0) := by rw [cell_blk hb2]; rfl
      have f0 := free_blk hb2 0
      have f1 := free_blk hb2 1
      have f2 := free_blk hb2 2
      have HB2 := hid hb2
      have HR2 := hid g4
      have HO2 := hid (g5.mono (R := fun x => A + 1 ≤ x) (fun x hx => by have := HN.out; omega))
      clear hb2 hm2 g4 g5
      go_upto_region 1 with fail
      have h3 := set3 HB2.out (.int .i64 k1) (.string s1) (.slice ao1 l1 c1)
      generalize hW3 : World.setCell _ _ _ = W3 at h3 ⊢
      clear hW3
      have hr3 := HR2.out.mv h3.mv (fun x hx => by have := HN.out; omega)
      have HM3 := hid (HM2.out.trans h3.mv (fun x hx => .inl (.inr hx)))
      have HB3 := hid h3.blk
      have HO3 := hid (HO2.out.mv h3.mv (fun x hx _ e => by have := HN.out; omega))
      have HR3 := hid hr3
      clear h3 r0 r1 r2 f0 f1 f2
      go_wp2_with fail
      refine Calls.mono (HK.out W3 i' HR3.out g2) ?_
      rintro e w4 ⟨rfl, hm4⟩
      have HM4 := hid (HM3.out.trans hm4 (fun _ h => h.elim))
      have HB4 := hid (hm4.heap HB3.out id)
      have HO4 := hid (HO3.out.mv hm4 (fun _ _ _ h => h))
      have HR4 := hid (HR3.out.nu hm4)
      clear hm4
      by_cases hk : kindAt L i' = 0
      · have hnone := HKn.out i' hk
        have hle : acc.length ≤ i' := List.getElem?_eq_none_iff.1 hnone
        rw [hk]
        go_wp2_with fail
        go_end0
        refine ⟨HM4.out, .inl ⟨rfl, t, _, _, _, ?_, ⟨k1, s1, ao1, l1, c1, rfl, rfl, rfl⟩, HB4.out, HO4.out⟩⟩
        unfold readR
        rw [H2.out]
        simp only
        rw [wds_len, if_pos (by omega)]
      · obtain ⟨_, _, _, _, _, _, hlt⟩ := HKs.out i' hk
        have hk' : (kindAt L i' != 0) = true := by simpa using hk
        generalize kindAt L i' = kd at hk' ⊢
        have HC4 := hid (HRf.out w4 i' HR4.out g2)
        go_wp2_with fail
        refine Calls.mono HC4.out ?_
        rintro e w5 ⟨hm5, rfl⟩
        rw [err_code g2]
        refine ⟨rfl, HM4.out.trans hm5 (fun _ h => h.elim), .inr ⟨_, _, rfl, ?_, _, _, _, ⟨k1, s1, ao1, l1, c1, rfl, rfl, rfl⟩, hm5.heap HB4.out id⟩⟩
        unfold readR
        rw [H2.out]
        simp only
        rw [wds_len, if_neg (by omega), if_neg (by omega)]

theorem readR_code {acc : List (Wd × Nat)} {n : Nat} {x : Nat × Nat} (h : readR acc n = .error x) : x.1 ≠ 0 := by
  unfold readR at h
  have hfu := fuel0 (acc.map (·.1))
  rw [List.length_map] at hfu
  split at h
  · split at h
    · cases h
    · cases h; simp
  · split at h
    · cases h; simp
    · cases h; simp
  · rename_i h2
    exact absurd h2 hfu

/-- The words as they lie. -/
theorem words_at {w : World} {b : Nat} {v : Value} {L : List Wrd} (h : w.ownsRow b 89 3 v L.length (wcells L)) : ∃ ao cap, v = .slice ao L.length cap ∧ ∀ (j : Nat) x, L[j]? = some x → ∃ wb, ao = some ⟨wb, 0, none⟩ ∧ wb < w.heap.size ∧ w.cell? ⟨wb, j * 3, none⟩ = some (.int .i64 x.k) ∧ w.cell? ⟨wb, j * 3 + 1, none⟩ = some (.int .i64 (x.at' : Int)) ∧ w.cell? ⟨wb, j * 3 + 2, none⟩ = some (.string (strOfL x.nm)) := by
  rcases h.2 with ⟨rfl, hn⟩ | ⟨g, cap, cur, rfl, _, hgg, _, _, _, ht⟩
  · exact ⟨none, 0, by rw [hn], fun j x hx => by have := (List.getElem?_eq_some_iff.1 hx).1; omega⟩
  · refine ⟨_, cap, rfl, fun j x hx => ⟨g, rfl, lt_of_block hgg, ?_⟩⟩
    have hlt := (List.getElem?_eq_some_iff.1 hx).1
    obtain ⟨e0, e1, e2⟩ := wcells_get L j x hx
    have key : ∀ i u, (wcells L)[i]? = some u → w.cell? ⟨g, i, none⟩ = some u := fun i u hu => by
      rw [cell_blk hgg, ← Array.getElem?_toList]
      have h1 : (cur.toList.take (L.length * 3))[i]? = some u := by rw [ht]; exact hu
      rw [List.getElem?_take] at h1
      split at h1
      · exact h1
      · cases h1
    exact ⟨key _ _ e0, key _ _ e1, key _ _ e2⟩

/-- What read gives. -/
def ReadOut (acc : List (Wd × Nat)) (n : Nat) (w w' : World) (e : Ending) : Prop := match readR acc n with
  | .ok f => ∃ v, e = .returned (.tuple #[v, .agg #[.int .i64 0, .int .i64 0]]) ∧ OwnT w.heap.size w' v f.t
  | .error x => ∃ d0 d1 d2, Cell3 d0 d1 d2 ∧ e = .returned (.tuple #[.agg #[d0, d1, d2], .agg #[.int .i64 (x.1 : Int), .int .i64 (x.2 : Int)]])

theorem row_nu1 {w w' : World} {base : Nat} {e : TypeId} {size : Nat} {v : Value} {n : Nat} {xs : List Value} (hr : w.ownsRow base e size v n xs) (h : Nu w w') : w'.ownsRow base e size v n xs := by
  refine ⟨hr.1, ?_⟩
  rcases hr.2 with hn' | ⟨g, cap, cur, rfl, hb, hgg, rest⟩
  · exact .inl hn'
  · exact .inr ⟨g, cap, cur, rfl, hb, h.heap hgg id, rest⟩

theorem alloc2 (w : World) (o0 o1 : Obj) : Nu w ((w.alloc o0).alloc o1) ∧ ((w.alloc o0).alloc o1).heap[w.heap.size]? = some o0 ∧ ((w.alloc o0).alloc o1).heap[w.heap.size + 1]? = some o1 ∧ ((w.alloc o0).alloc o1).heap.size = w.heap.size + 1 + 1 := by
  have h1 := heap_alloc_new (w.alloc o0) o1
  rw [show (w.alloc o0).heap.size = w.heap.size + 1 by simp] at h1
  exact ⟨mv0 (Mv.alloc _ _ _) (Mv.alloc _ _ _), (Mv.alloc (fun _ => False) (w.alloc o0) o1).heap (heap_alloc_new w o0) id, h1, by simp⟩

theorem alloc4 (w : World) (o0 o1 o2 o3 : Obj) : Nu w ((((w.alloc o0).alloc o1).alloc o2).alloc o3) ∧ ((((w.alloc o0).alloc o1).alloc o2).alloc o3).heap[w.heap.size]? = some o0 ∧ ((((w.alloc o0).alloc o1).alloc o2).alloc o3).heap[w.heap.size + 1]? = some o1 ∧
    ((((w.alloc o0).alloc o1).alloc o2).alloc o3).heap[w.heap.size + 1 + 1]? = some o2 ∧ ((((w.alloc o0).alloc o1).alloc o2).alloc o3).heap[w.heap.size + 1 + 1 + 1]? = some o3 ∧ ((((w.alloc o0).alloc o1).alloc o2).alloc o3).heap.size = w.heap.size + 1 + 1 + 1 + 1 := by
  obtain ⟨a1, a2, a3, a4⟩ := alloc2 w o0 o1
  obtain ⟨b1, b2, b3, b4⟩ := alloc2 ((w.alloc o0).alloc o1) o2 o3
  rw [a4] at b2 b3 b4
  exact ⟨mv0 a1 b1, b1.heap a2 id, b1.heap a3 id, b2, b3, b4⟩

set_option maxHeartbeats 4000000 in
theorem read_any {L : List Wrd} {acc : List (Wd × Nat)} (hW : Wrs L acc) (hl : acc.length ≤ 4096) (n b : Nat) (v : Value) (w : World) (hv : w.ownsRow b 89 3 v L.length (wcells L)) :
    Calls Tryd.prog 26 #[v, .int .i64 (n : Int)] w fun e w' => Nu w w' ∧ ReadOut acc n w w' e := by
  obtain ⟨ao, cap, rfl, hws⟩ := words_at hv
  have HWs := hid hws
  have HW := hid (And.intro hW hl)
  clear hws hv hW hl
  go_enter Tryd.func26, Tryd.ntmps26
  go_wp2_with fail
  obtain ⟨a0, a1, a2, a3, a4, a5⟩ := alloc4 w Z3 (.cells #[.int .i64 0, .int .i64 0] 34) (.cells #[.slice ao L.length cap, .int .i64 0, .int .i64 (n : Int)] 93) Z3
  generalize hW4 : World.alloc _ _ = W4 at a0 a1 a2 a3 a4 a5 ⊢
  clear hW4
  have hrd : ∀ W, Nu W4 W → RdIs W (w.heap.size + 1 + 1) L 0 n := fun W hN => by
    refine ⟨ao, cap, hN.heap a3 id, fun j x hx => ?_⟩
    obtain ⟨wb, k1, k2, k3, k4, k5⟩ := HWs.out j x hx
    have hm := mv0 a0 hN
    exact ⟨wb, k1, by omega, cell_mv hm k3 id, cell_mv hm k4 id, cell_mv hm k5 id⟩
  have hat := attempt_read #[.pointer (some ⟨w.heap.size + 1 + 1, 0, none⟩), .pointer (some ⟨w.heap.size + 1 + 1 + 1, 0, none⟩)] W4 (fun x => x = w.heap.size + 1 + 1 ∨ x = w.heap.size + 1 + 1 + 1) (ReadW acc n (w.heap.size + 1 + 1 + 1) W4.heap.size) (fun x hx => by omega)
    (fun W hN hlt => read1_any HW.out.1 HW.out.2 n (w.heap.size + 1 + 1) (w.heap.size + 1 + 1 + 1) W4.heap.size W (hrd W hN) hlt (by omega) (by omega) (hN.heap a4 id))
    (fun r W W' h hm => h.mv hm (by omega))
  refine Calls.mono hat ?_
  clear hat hrd
  rintro e w5 ⟨hm5, r, rfl, hr⟩
  have b1 := hm5.heap a1 (by omega)
  have b2 := hm5.heap a2 (by omega)
  have HM5 : Hid (Nu w w5) := a0.trans hm5 (fun x hx => .inr (by omega))
  have HA : Hid (w.heap.size + 1 + 1 + 1 + 1 = W4.heap.size) := a5.symm
  have HSz : Hid (w.heap.size + 1 + 1 + 1 + 1 ≤ w5.heap.size) := by have := hm5.size; show _ ≤ _; omega
  obtain ⟨d0, d1, d2, hc3, hbt⟩ : ∃ d0 d1 d2, Cell3 d0 d1 d2 ∧ w5.heap[w.heap.size + 1 + 1 + 1]? = some (.cells #[d0, d1, d2] 24 (0, 0)) := by
    cases r with
    | some x => obtain ⟨h1, d0, d1, d2, h2, h3⟩ := hr; exact ⟨d0, d1, d2, h2, h3⟩
    | none => obtain ⟨f, d0, d1, d2, h1, h2, h3, h4⟩ := hr; exact ⟨d0, d1, d2, h2, h3⟩
  obtain ⟨k, s, ao', l, c, rfl, rfl, rfl⟩ := hc3
  have HFin : Hid (∀ W', Mv (fun x => x = w.heap.size ∨ x = w.heap.size + 1) w5 W' → ReadOut acc n w W' (.returned (.tuple #[.agg #[.int .i64 k, .string s, .slice ao' l c], .agg #[.int .i64 ((misOf r).1 : Int), .int .i64 ((misOf r).2 : Int)]]))) := fun W' hm => by
    unfold ReadOut
    cases r with
    | some x =>
      obtain ⟨h1, _⟩ := hr
      rw [h1]
      exact ⟨_, _, _, ⟨k, s, ao', l, c, rfl, rfl, rfl⟩, rfl⟩
    | none =>
      obtain ⟨f, d0, d1, d2, h1, h2, h3, h4⟩ := hr
      rw [h1]
      rw [hbt] at h3
      cases h3
      refine ⟨_, rfl, (h4.mv hm (fun x hx _ e => by have := HA.out; omega)).mono (fun x hx => by have := HA.out; omega)⟩
  have HB1 := hid b1
  have HB2 := hid b2
  have HBt := hid hbt
  generalize (misOf r).1 = mc at HFin ⊢
  generalize (misOf r).2 = mp at HFin ⊢
  clear a0 a1 a2 a3 a4 a5 hm5 hr b1 b2 hbt
  go_upto_region 4 with fail
  have hM6 : Nu w5 (w5.alloc (.cells #[.int .i64 (mc : Int), .int .i64 (mp : Int)] 34)) := Mv.alloc _ _ _
  have hbx := heap_alloc_new w5 (.cells #[.int .i64 (mc : Int), .int .i64 (mp : Int)] 34)
  generalize hW6 : World.alloc _ _ = W6 at hM6 hbx ⊢
  clear hW6
  have b1 := hM6.heap HB1.out id
  have b2 := hM6.heap HB2.out id
  have bt := hM6.heap HBt.out id
  have t0 : W6.cell? ⟨w.heap.size + 1 + 1 + 1, 0, none⟩ = some (.int .i64 k) := by rw [cell_blk bt]; rfl
  have t1 : W6.cell? ⟨w.heap.size + 1 + 1 + 1, 1, none⟩ = some (.string s) := by rw [cell_blk bt]; rfl
  have t2 : W6.cell? ⟨w.heap.size + 1 + 1 + 1, 2, none⟩ = some (.slice ao' l c) := by rw [cell_blk bt]; rfl
  have x0 : W6.cell? ⟨w5.heap.size, 0, none⟩ = some (.int .i64 (mc : Int)) := by rw [cell_blk hbx]; rfl
  have x1 : W6.cell? ⟨w5.heap.size, 1, none⟩ = some (.int .i64 (mp : Int)) := by rw [cell_blk hbx]; rfl
  have r0 : W6.cell? ⟨w.heap.size, 0, none⟩ = some (.int .i64 0) := by rw [cell_blk b1]; rfl
  have r1 : W6.cell? ⟨w.heap.size, 1, none⟩ = some (.string ⟨#[]⟩) := by rw [cell_blk b1]; rfl
  have r2 : W6.cell? ⟨w.heap.size, 2, none⟩ = some (.slice none 0 0) := by rw [cell_blk b1]; rfl
  have q0 : W6.cell? ⟨w.heap.size + 1, 0, none⟩ = some (.int .i64 0) := by rw [cell_blk b2]; rfl
  have q1 : W6.cell? ⟨w.heap.size + 1, 1, none⟩ = some (.int .i64 0) := by rw [cell_blk b2]; rfl
  have f0 := free_blk b1 0
  have f1 := free_blk b1 1
  have f2 := free_blk b1 2
  have g0 := free_blk b2 0
  have g1 := free_blk b2 1
  have n1 : w.heap.size ≠ w5.heap.size := by have := HSz.out; omega
  have n2 : w.heap.size + 1 ≠ w5.heap.size := by have := HSz.out; omega
  have HB6 := hid b1
  have HC6 := hid b2
  have HM6 := hid hM6
  clear hM6 hbx b1 b2 bt
  go_region
  all_goals
    go_wp2_with fail
    have h3 := set3 HB6.out (.int .i64 k) (.string s) (.slice ao' l c)
    generalize hW7 : ((W6.setCell ⟨w.heap.size, 0, none⟩ (.int .i64 k)).setCell ⟨w.heap.size, 1, none⟩ (.string s)).setCell ⟨w.heap.size, 2, none⟩ (.slice ao' l c) = W7 at h3 ⊢
    obtain ⟨h4, h5⟩ := set2 (h3.mv.heap HC6.out (by omega)) (.int .i64 (mc : Int)) (.int .i64 (mp : Int))
    generalize hW8 : (W7.setCell ⟨w.heap.size + 1, 0, none⟩ (.int .i64 (mc : Int))).setCell ⟨w.heap.size + 1, 1, none⟩ (.int .i64 (mp : Int)) = W8 at h4 h5 ⊢
    have h6 := h4.heap h3.blk (by omega)
    have y0 : W8.drew.cell? ⟨w.heap.size, 0, none⟩ = some (.int .i64 k) := (three h6).c0
    have y1 : W8.drew.cell? ⟨w.heap.size, 1, none⟩ = some (.string s) := (three h6).c1
    have y2 : W8.drew.cell? ⟨w.heap.size, 2, none⟩ = some (.slice ao' l c) := (three h6).c2
    have z0 : W8.drew.cell? ⟨w.heap.size + 1, 0, none⟩ = some (.int .i64 (mc : Int)) := by show W8.cell? _ = _; rw [cell_blk h5]; rfl
    have z1 : W8.drew.cell? ⟨w.heap.size + 1, 1, none⟩ = some (.int .i64 (mp : Int)) := by show W8.cell? _ = _; rw [cell_blk h5]; rfl
    have hmf : Mv (fun x => x = w.heap.size ∨ x = w.heap.size + 1) w5 W8.drew := (((HM6.out.mono (fun _ h => h.elim)).trans h3.mv (fun x hx => .inl (.inl hx))).trans h4 (fun x hx => .inl (.inr hx))).trans (Mv.drew (fun _ => False) _) (fun _ h => h.elim)
    refine bodyPost_ret (v := .tuple #[.agg #[.int .i64 k, .string s, .slice ao' l c], .agg #[.int .i64 (mc : Int), .int .i64 (mp : Int)]]) (by simp [results, Tryd.results26, go_sem, y0, y1, y2, z0, z1]) rfl ?_
    exact ⟨HM5.out.trans hmf (fun x hx => .inr (by omega)), HFin.out _ hmf⟩

/-- What Parse gives, in words: the formula's tree in new blocks. -/
theorem parse_read {s : Wd} {acc : List (Wd × Nat)} (hs : s.length ≤ 4096) (ht : tokens s = .ok acc) : parse s = match readR acc s.length with
    | .ok t => if 100 < t.depth then .error (93, 0) else .ok t
    | .error x => .error x := by
  unfold parse readR
  rw [if_neg (by omega), ht]
  simp only
  cases h : fm (8 * acc.length + 8) 0 (acc.map (·.1)) with
  | none => rfl
  | some r =>
    cases r with
    | error e => simp only; split <;> rfl
    | ok tr =>
      obtain ⟨t, r⟩ := tr
      simp only
      split <;> rfl

theorem resParse {W : World} {b : Nat} {d0 d1 d2 x y : Value} (h1 : W.heap[b]? = some (.cells #[d0, d1, d2] 24 (0, 0))) (h2 : W.heap[b + 1]? = some (.cells #[x, y] 34 (0, 0))) {T : Array Value} (t2 : T[2]?.getD undef = .pointer (some ⟨b, 0, none⟩)) (t3 : T[3]?.getD undef = .pointer (some ⟨b + 1, 0, none⟩)) :
    (results Tryd.f13 T).run Tryd.prog W = .ok (.tuple #[.agg #[d0, d1, d2], .agg #[x, y]]) W := by
  have c0 := (three h1).c0
  have c1 := (three h1).c1
  have c2 := (three h1).c2
  have e0 : W.cell? ⟨b + 1, 0, none⟩ = some x := by rw [cell_blk h2]; rfl
  have e1 : W.cell? ⟨b + 1, 1, none⟩ = some y := by rw [cell_blk h2]; rfl
  simp only [results, Tryd.results13]
  simp [t2, t3, go_sem, c0, c1, c2, e0, e1]

theorem ows_zero (w W : World) : Ows w W (.agg #[.int .i64 0, .string ⟨#[]⟩, .slice none 0 0]) (.mk 0 [] []) := ⟨_, _, _, 0, rfl, zero_t _ _, Sp.nil _ _ _⟩

/-- The two answers' blocks are written. -/
theorem set5 {w W : World} {d0 d1 d2 x y : Value} {t t' : TypeId} (h1 : W.heap[w.heap.size]? = some (.cells #[d0, d1, d2] t (0, 0))) (h2 : W.heap[w.heap.size + 1]? = some (.cells #[x, y] t' (0, 0))) (hm : Nu w W) (a0 a1 a2 b0 b1 : Value) :
    let W' := (((((W.setCell ⟨w.heap.size, 0, none⟩ a0).setCell ⟨w.heap.size, 1, none⟩ a1).setCell ⟨w.heap.size, 2, none⟩ a2).setCell ⟨w.heap.size + 1, 0, none⟩ b0).setCell ⟨w.heap.size + 1, 1, none⟩ b1)
    W'.heap[w.heap.size]? = some (.cells #[a0, a1, a2] t (0, 0)) ∧ W'.heap[w.heap.size + 1]? = some (.cells #[b0, b1] t' (0, 0)) ∧ Nu w W' ∧ Mv (fun x => x = w.heap.size ∨ x = w.heap.size + 1) W W' := by
  have h3 := set3 h1 a0 a1 a2
  obtain ⟨h4, h5⟩ := set2 (h3.mv.heap h2 (by omega)) b0 b1
  have hmm := (h3.mv.mono (T := fun x => x = w.heap.size ∨ x = w.heap.size + 1) (fun x hx => .inl (.inl hx))).trans h4 (fun x hx => .inl (.inr hx))
  exact ⟨h4.heap h3.blk (by omega), h5, hm.trans hmm (fun x hx => .inr (by omega)), hmm⟩

theorem tokens_err {s : Wd} {p : Nat} (hs : s.length ≤ 4096) (h : tokens s = .error p) : parse s = .error (90, p) := by
  unfold parse
  rw [if_neg (by omega), h]

theorem readR_size {acc : List (Wd × Nat)} {n : Nat} {f : F} (h : readR acc n = .ok f) : f.size ≤ acc.length := by
  unfold readR at h
  split at h
  · rename_i t r h2
    split at h
    · cases h
      have := (size_le _).1 _ _ _ _ h2
      rw [List.length_map] at this
      omega
    · cases h
  · split at h <;> cases h
  · cases h

set_option maxHeartbeats 8000000 in
theorem Parse_any' (s : Wd) (hs : s.length ≤ 140737488355328) (w : World) (hG : Gl w) :
    Calls Tryd.prog 13 #[.string (strOfL s)] w fun e w' => Nu w w' ∧ ∃ v, e = .returned (.tuple #[v, .agg #[.int .i64 ((pc s).1 : Int), .int .i64 ((pc s).2 : Int)]]) ∧ Ows w w' v (pt s) := by
  have HSz := hid (str_size s)
  have hss : (strOfL s).size ≤ 140737488355328 := by rw [str_size]; exact hs
  have HG := hid hG
  clear hG
  by_cases hlong : 4096 < s.length
  · have hp : parse s = .error (2, 0) := by unfold parse; rw [if_pos hlong]
    have hpc : pc s = (2, 0) := by unfold pc; rw [hp]
    have hpt : pt s = .mk 0 [] [] := by unfold pt; rw [hp]
    rw [hpc, hpt]
    have hgt : ((strOfL s).size : Int) > 4096 := by rw [str_size]; omega
    clear hp hpc hpt
    go_enter Tryd.func13, Tryd.ntmps13
    go_wp2_with fail
    obtain ⟨a1, a2, a3, a4⟩ := alloc2 w Z3 (.cells #[.int .i64 2, .int .i64 0] 34)
    generalize hW2 : World.alloc _ _ = W2 at a1 a2 a3 ⊢
    refine bodyPost_ret (resParse a2 a3 rfl rfl) rfl ?_
    exact ⟨a1, _, rfl, ows_zero _ _⟩
  · have hs4 : s.length ≤ 4096 := by omega
    have hgt : ¬ ((strOfL s).size : Int) > 4096 := by rw [str_size]; omega
    have HC := hid (fun W (hN : Nu w W) => cut_any s hs4 W (HG.out.nu hN))
    have HS4 := hid hs4
    have hst : s.length = (strOfL s).size := (str_size s).symm
    clear hs4 hlong hs
    go_enter Tryd.func13, Tryd.ntmps13
    go_wp2_with fail
    obtain ⟨a1, a2, a3, a4⟩ := alloc2 w Z3 (.cells #[.int .i64 0, .int .i64 0] 34)
    generalize hW2 : World.alloc _ _ = W2 at a1 a2 a3 a4 ⊢
    clear hW2
    refine Calls.mono (HC.out W2 a1) ?_
    rintro e w3 ⟨hm3, ho⟩
    have HM3 := hid (mv0 a1 hm3)
    have HB1 := hid (hm3.heap a2 id)
    have HB2 := hid (hm3.heap a3 id)
    have HZ := hid a4
    clear a1 a2 a3 a4 hm3
    unfold CutOut at ho
    cases ht : tokens s with
    | error p =>
      rw [ht] at ho
      simp only at ho
      subst ho
      have hp := tokens_err HS4.out ht
      have HPc : Hid (pc s = (90, p)) := by show _ = _; unfold pc; rw [hp]
      have HPt : Hid (pt s = .mk 0 [] []) := by show _ = _; unfold pt; rw [hp]
      clear ht hp
      go_upto_region 5 with fail
      have hM4 : Nu w3 (w3.alloc (.cells #[.int .i64 90, .int .i64 (p : Int)] 34)) := Mv.alloc _ _ _
      have hbx := heap_alloc_new w3 (.cells #[.int .i64 90, .int .i64 (p : Int)] 34)
      generalize hW4 : World.alloc _ _ = W4 at hM4 hbx ⊢
      clear hW4
      have b1 := hM4.heap HB1.out id
      have b2 := hM4.heap HB2.out id
      have x0 : W4.cell? ⟨w3.heap.size, 0, none⟩ = some (.int .i64 90) := by rw [cell_blk hbx]; rfl
      have x1 : W4.cell? ⟨w3.heap.size, 1, none⟩ = some (.int .i64 (p : Int)) := by rw [cell_blk hbx]; rfl
      have r0 : W4.cell? ⟨w.heap.size, 0, none⟩ = some (.int .i64 0) := by rw [cell_blk b1]; rfl
      have r1 : W4.cell? ⟨w.heap.size, 1, none⟩ = some (.string ⟨#[]⟩) := by rw [cell_blk b1]; rfl
      have r2 : W4.cell? ⟨w.heap.size, 2, none⟩ = some (.slice none 0 0) := by rw [cell_blk b1]; rfl
      have q0 : W4.cell? ⟨w.heap.size + 1, 0, none⟩ = some (.int .i64 0) := by rw [cell_blk b2]; rfl
      have q1 : W4.cell? ⟨w.heap.size + 1, 1, none⟩ = some (.int .i64 0) := by rw [cell_blk b2]; rfl
      have f0 := free_blk b1 0
      have f1 := free_blk b1 1
      have f2 := free_blk b1 2
      have g0 := free_blk b2 0
      have g1 := free_blk b2 1
      have hl1 := lt_of_block HB2.out
      have n1 : w.heap.size ≠ w3.heap.size := by omega
      have n2 : w.heap.size + 1 ≠ w3.heap.size := by omega
      have HB6 := hid b1
      have HC6 := hid b2
      have HM4 := hid (mv0 HM3.out hM4)
      clear hM4 hbx b1 b2
      go_region
      all_goals
        go_wp2_with fail
        obtain ⟨e1, e2, e3, _⟩ := set5 HB6.out HC6.out HM4.out (.int .i64 0) (.string ⟨#[]⟩) (.slice none 0 0) (.int .i64 90) (.int .i64 (p : Int))
        generalize hW5 : ((((W4.setCell _ _).setCell _ _).setCell _ _).setCell _ _).setCell _ _ = W5 at e1 e2 e3 ⊢
        refine bodyPost_ret (resParse (W := W5.drew) e1 e2 rfl rfl) rfl ?_
        rw [HPc.out, HPt.out]
        exact ⟨mv0 e3 (Mv.drew _ _), _, rfl, ows_zero _ _⟩
    | ok acc =>
      rw [ht] at ho
      simp only at ho
      obtain ⟨v, L, rfl, hWr, hLs, hrow⟩ := ho
      have hpr := parse_read HS4.out ht
      have hal : acc.length ≤ 4096 := by rw [← hWr.len]; have := HS4.out; omega
      obtain ⟨ao, cap, rfl⟩ := slice_form hrow
      have HRd := hid (fun W (hN : Nu w3 W) => read_any hWr hal (strOfL s).size W2.heap.size _ W (row_nu1 hrow hN))
      rw [hst] at hpr
      have HPr := hid hpr
      have HFs := hid (fun f (h : readR acc (strOfL s).size = .ok f) => Nat.le_trans (readR_size h) hal)
      clear ht hpr hWr hLs hrow hal
      go_wp2_with fail
      have hM4 : Nu w3 (w3.alloc (.cells #[.int .i64 0, .int .i64 0] 34)) := Mv.alloc _ _ _
      have hbx := heap_alloc_new w3 (.cells #[.int .i64 0, .int .i64 0] 34)
      generalize hW4 : World.alloc _ _ = W4 at hM4 hbx ⊢
      clear hW4
      refine Calls.mono (HRd.out W4 hM4) ?_
      rintro e w5 ⟨hm5, ho⟩
      have hM5 := mv0 hM4 hm5
      have HM5 := hid (mv0 HM3.out hM5)
      have HB5 := hid (hM5.heap HB1.out id)
      have HC5 := hid (hM5.heap HB2.out id)
      have hbx5 := hm5.heap hbx id
      have hl1 := lt_of_block HB2.out
      have hl3 := lt_of_block hbx
      have HSz5 := hid hm5.size
      have HX5 := hid hbx5
      have hlt5 := lt_of_block hbx5
      have c0 : w5.cell? ⟨w3.heap.size, 0, none⟩ = some (.int .i64 0) := by rw [cell_blk hbx5]; rfl
      have c1 : w5.cell? ⟨w3.heap.size, 1, none⟩ = some (.int .i64 0) := by rw [cell_blk hbx5]; rfl
      have h0 := free_blk hbx5 0
      have h1 := free_blk hbx5 1
      clear hM4 hbx hm5 hM5 hbx5 HRd
      unfold ReadOut at ho
      cases hrr : readR acc (strOfL s).size with
      | error x =>
        rw [hrr] at ho
        simp only at ho
        obtain ⟨d0, d1, d2, ⟨k, st, ao', l, c, rfl, rfl, rfl⟩, rfl⟩ := ho
        have hx0 := readR_code hrr
        have hpr := HPr.out
        rw [hrr] at hpr
        simp only at hpr
        have HPc : Hid (pc s = x) := by show _ = _; unfold pc; rw [hpr]
        have HPt : Hid (pt s = .mk 0 [] []) := by show _ = _; unfold pt; rw [hpr]
        obtain ⟨xc, xp⟩ := x
        simp only at hx0 ⊢
        have hx0' : ((xc : Int) != 0) = true := by simp; omega
        clear hrr hpr hx0
        go_upto_region 8 with fail
        obtain ⟨s1, s2⟩ := set2 HX5.out (.int .i64 (xc : Int)) (.int .i64 (xp : Int))
        generalize hW6 : (w5.setCell ⟨w3.heap.size, 0, none⟩ (.int .i64 (xc : Int))).setCell ⟨w3.heap.size, 1, none⟩ (.int .i64 (xp : Int)) = W6 at s1 s2 ⊢
        clear hW6
        have hM7 : Nu W6 (W6.alloc (.cells #[.int .i64 k, .string st, .slice ao' l c] 24)) := Mv.alloc _ _ _
        generalize hW7 : World.alloc _ _ = W7 at hM7 ⊢
        clear hW7
        have m7 := s1.trans hM7 (fun _ h => h.elim)
        have b1 := m7.heap HB5.out (by omega)
        have b2 := m7.heap HC5.out (by omega)
        have bx := hM7.heap s2 id
        have x0 : W7.cell? ⟨w3.heap.size, 0, none⟩ = some (.int .i64 (xc : Int)) := by rw [cell_blk bx]; rfl
        have x1 : W7.cell? ⟨w3.heap.size, 1, none⟩ = some (.int .i64 (xp : Int)) := by rw [cell_blk bx]; rfl
        have r0 : W7.cell? ⟨w.heap.size, 0, none⟩ = some (.int .i64 0) := by rw [cell_blk b1]; rfl
        have r1 : W7.cell? ⟨w.heap.size, 1, none⟩ = some (.string ⟨#[]⟩) := by rw [cell_blk b1]; rfl
        have r2 : W7.cell? ⟨w.heap.size, 2, none⟩ = some (.slice none 0 0) := by rw [cell_blk b1]; rfl
        have q0 : W7.cell? ⟨w.heap.size + 1, 0, none⟩ = some (.int .i64 0) := by rw [cell_blk b2]; rfl
        have q1 : W7.cell? ⟨w.heap.size + 1, 1, none⟩ = some (.int .i64 0) := by rw [cell_blk b2]; rfl
        have f0 := free_blk b1 0
        have f1 := free_blk b1 1
        have f2 := free_blk b1 2
        have g0 := free_blk b2 0
        have g1 := free_blk b2 1
        have n1 : w.heap.size ≠ w3.heap.size := by omega
        have n2 : w.heap.size + 1 ≠ w3.heap.size := by omega
        have HB6 := hid b1
        have HC6 := hid b2
        have HM7 := hid (HM5.out.trans m7 (fun x hx => .inr (by omega)))
        clear hM7 m7 bx b1 b2 s1 s2 c0 c1 h0 h1
        go_region
        all_goals
          go_wp2_with fail
          obtain ⟨e1, e2, e3, _⟩ := set5 HB6.out HC6.out HM7.out (.int .i64 0) (.string ⟨#[]⟩) (.slice none 0 0) (.int .i64 (xc : Int)) (.int .i64 (xp : Int))
          generalize hW8 : ((((W7.setCell _ _).setCell _ _).setCell _ _).setCell _ _).setCell _ _ = W8 at e1 e2 e3 ⊢
          refine bodyPost_ret (resParse (W := W8.drew) e1 e2 rfl rfl) rfl ?_
          rw [HPc.out, HPt.out]
          exact ⟨mv0 e3 (Mv.drew _ _), _, rfl, ows_zero _ _⟩
      | ok f =>
        rw [hrr] at ho
        simp only at ho
        obtain ⟨v, rfl, hown⟩ := ho
        have hsz := HFs.out f hrr
        have hpr := HPr.out
        rw [hrr] at hpr
        simp only at hpr
        obtain ⟨k, st, ao', l, c, rfl⟩ := hown.cells
        have HOw := hid hown
        have HFz := hid hsz
        have HPr2 := hid hpr
        clear hrr hpr hown hsz
        go_upto_region 9 with fail
        obtain ⟨s1, s2⟩ := set2 HX5.out (.int .i64 0) (.int .i64 0)
        generalize hW6 : (w5.setCell ⟨w3.heap.size, 0, none⟩ (.int .i64 0)).setCell ⟨w3.heap.size, 1, none⟩ (.int .i64 0) = W6 at s1 s2 ⊢
        have hs6 : W6.heap.size = w5.heap.size := by rw [← hW6]; simp [World.setCell]
        clear hW6
        have hM7 : Nu W6 (W6.alloc (.cells #[.int .i64 k, .string st, .slice ao' l c] 24)) := Mv.alloc _ _ _
        have hbt := heap_alloc_new W6 (.cells #[.int .i64 k, .string st, .slice ao' l c] 24)
        rw [hs6] at hbt
        generalize hW7 : World.alloc _ _ = W7 at hM7 hbt ⊢
        clear hW7
        have m7 := s1.trans hM7 (fun _ h => h.elim)
        have HB7 := hid (m7.heap HB5.out (by omega))
        have HC7 := hid (m7.heap HC5.out (by omega))
        have HO7 := hid (HOw.out.mv m7 (fun x hx _ e => by omega))
        have HM7 := hid (HM5.out.trans m7 (fun x hx => .inr (by omega)))
        have HBt7 := hid hbt
        have hTIn : TIn W7 (fun b => W4.heap.size ≤ b) (.int .i64 k) (.string st) (.slice ao' l c) f.t := by
          obtain ⟨d0, d1, d2, m, e1, e2, _⟩ := HO7.out
          cases e1
          exact e2
        obtain ⟨a, haIn, hat⟩ := AIn.of hTIn
        have HTD := hid (tooDeep_any W7 w5.heap.size 0 _ _ _ a (by rw [cell_blk hbt]; rfl) haIn (by rw [hat, f.size_t]; have := HFz.out; omega))
        rw [hat, f.depth_t] at HTD
        clear hs6 hM7 hbt m7 s1 s2 c0 c1 h0 h1 hTIn haIn hat
        go_wp2_with fail
        refine Calls.mono HTD.out ?_
        rintro e w8 ⟨rfl, hm8⟩
        have b1 := hm8.heap HB7.out id
        have b2 := hm8.heap HC7.out id
        have bt := hm8.heap HBt7.out id
        have t0 : w8.cell? ⟨w5.heap.size, 0, none⟩ = some (.int .i64 k) := by rw [cell_blk bt]; rfl
        have t1 : w8.cell? ⟨w5.heap.size, 1, none⟩ = some (.string st) := by rw [cell_blk bt]; rfl
        have t2 : w8.cell? ⟨w5.heap.size, 2, none⟩ = some (.slice ao' l c) := by rw [cell_blk bt]; rfl
        have r0 : w8.cell? ⟨w.heap.size, 0, none⟩ = some (.int .i64 0) := by rw [cell_blk b1]; rfl
        have r1 : w8.cell? ⟨w.heap.size, 1, none⟩ = some (.string ⟨#[]⟩) := by rw [cell_blk b1]; rfl
        have r2 : w8.cell? ⟨w.heap.size, 2, none⟩ = some (.slice none 0 0) := by rw [cell_blk b1]; rfl
        have q0 : w8.cell? ⟨w.heap.size + 1, 0, none⟩ = some (.int .i64 0) := by rw [cell_blk b2]; rfl
        have q1 : w8.cell? ⟨w.heap.size + 1, 1, none⟩ = some (.int .i64 0) := by rw [cell_blk b2]; rfl
        have f0 := free_blk b1 0
        have f1 := free_blk b1 1
        have f2 := free_blk b1 2
        have g0 := free_blk b2 0
        have g1 := free_blk b2 1
        have n1 : w.heap.size ≠ w5.heap.size := by omega
        have n2 : w.heap.size + 1 ≠ w5.heap.size := by omega
        have HB8 := hid b1
        have HC8 := hid b2
        have HO8 := hid (HO7.out.mv hm8 (fun _ _ _ h => h))
        have HM8 := hid (mv0 HM7.out hm8)
        clear hm8 b1 b2 bt
        by_cases hdp : 100 < f.depth
        · have hpr := HPr2.out
          rw [if_pos hdp] at hpr
          have HPc : Hid (pc s = (93, 0)) := by show _ = _; unfold pc; rw [hpr]
          have HPt : Hid (pt s = .mk 0 [] []) := by show _ = _; unfold pt; rw [hpr]
          have hd' : decide (100 < f.depth) = true := decide_eq_true hdp
          rw [hd']
          clear hpr hdp hd'
          go_wp2_with fail
          obtain ⟨e1, e2, e3, _⟩ := set5 HB8.out HC8.out HM8.out (.int .i64 0) (.string ⟨#[]⟩) (.slice none 0 0) (.int .i64 93) (.int .i64 0)
          generalize hW9 : ((((w8.setCell _ _).setCell _ _).setCell _ _).setCell _ _).setCell _ _ = W9 at e1 e2 e3 ⊢
          refine bodyPost_ret (resParse (W := W9) e1 e2 rfl rfl) rfl ?_
          rw [HPc.out, HPt.out]
          exact ⟨e3, _, rfl, ows_zero _ _⟩
        · have hpr := HPr2.out
          rw [if_neg hdp] at hpr
          have HPc : Hid (pc s = (0, 0)) := by show _ = _; unfold pc; rw [hpr]
          have HPt : Hid (pt s = f.t) := by show _ = _; unfold pt; rw [hpr]
          have hd' : decide (100 < f.depth) = false := decide_eq_false hdp
          rw [hd']
          clear hpr hdp hd'
          go_wp2_with fail
          obtain ⟨e1, e2, e3, e4⟩ := set5 HB8.out HC8.out HM8.out (.int .i64 k) (.string st) (.slice ao' l c) (.int .i64 0) (.int .i64 0)
          generalize hW9 : ((((w8.setCell _ _).setCell _ _).setCell _ _).setCell _ _).setCell _ _ = W9 at e1 e2 e3 e4 ⊢
          refine bodyPost_ret (resParse (W := W9) e1 e2 rfl rfl) rfl ?_
          rw [HPc.out, HPt.out]
          refine ⟨e3, _, rfl, ?_⟩
          have ho := HO8.out.mv e4 (fun x hx _ e => by omega)
          exact OwnT.ows (ho.mono (fun x hx => by omega))

end Go.Proofs.YtidihaecgmbhpabDoor
