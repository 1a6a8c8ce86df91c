/-
  NNode, NAllW, NExplW.
-/
import Derived.Sort.CutIn
import Derived.Test.YtiinmaedmkgfoaaDoorM40
/-
  What a system tells of a state: the program's node.
-/
set_option linter.unusedVariables false
set_option linter.unusedSimpArgs false
namespace Go.Proofs.YtiinmaedmkgfoaaDoor
open Go.RowKit Go.Shelf
attribute [local go_sem] Oper.semAt_some

/-- What node answers. -/
def NodeOut (H wb mb : Nat) (T : TypeId) (r0 : Value) (most : Int) (so : Option Addr) (sc : Nat) (ss : List ByteArray) (cnt : Nat) (M : Sem) (st : ByteArray) (W : World) (e : Ending) (W' : World) : Prop :=
  Mv (WS wb mb so ss.length sc) W W' ∧
  ((allMoves most.toNat ⟨ss, cnt, []⟩ (M.next st) = none ∧ e = .returned (.tuple #[.agg #[.slice none 0 0, .int .u64 0, .bool false, .bool false, .bool false], .bool false])) ∨
   ∃ u va vac axs so' sc', allMoves most.toNat ⟨ss, cnt, []⟩ (M.next st) = some u ∧ e = .returned (.tuple #[.agg #[.slice va (List.length (α := Arc) u.arcs) vac, .int .u64 (M.look st).props, .bool (M.look st).en, .bool (M.look st).pr, .bool (M.look st).ac], .bool true]) ∧
     WK H W' wb mb T r0 most so' sc' u.states u.cnt ∧ axs.map AX.a = u.arcs ∧ ArcsZ W' (Zt W.heap.size W') va axs ∧ (∀ b, WS wb mb so' u.states.length sc' b → WS wb mb so ss.length sc b ∨ W.heap.size ≤ b))

/-- What is known between two rounds. -/
def NInv (H wb mb : Nat) (T : TypeId) (r0 : Value) (most : Int) (W : World) (S0 : Nat → Prop) (HL b7 : Nat) (sg : Sight) (ss : List ByteArray) (cnt : Nat) (ms : List Mov) (s : List X × (Nat → Prop)) (A : World) : Prop :=
  ∃ so' sc' u va vac axs, NI H wb mb T r0 most W S0 HL W.heap.size (W.heap.size + 1) (W.heap.size + 1 + 1) b7 sg A so' sc' u va vac axs ∧ allMoves most.toNat ⟨ss, cnt, []⟩ (s.1.map X.m) = some u ∧ s.1.map X.m = ms.take s.1.length ∧ s.2 = NO wb mb so' u.states.length sc' (W.heap.size + 1) (W.heap.size + 1 + 1) b7 va u.arcs.length vac
/-- What is known where it is refused. -/
def NStop (most : Int) (W : World) (S0 : Nat → Prop) (ss : List ByteArray) (cnt : Nat) (ms : List Mov) (c : Code) (pre : List X) (A : World) : Prop :=
  c = Code.ret ∧ allMoves most.toNat ⟨ss, cnt, []⟩ ms = none ∧ Mv S0 W A ∧ A.heap[W.heap.size + 1]? = some (.cells #[.slice none 0 0, .int .u64 0, .bool false, .bool false, .bool false] 125 (0, 0)) ∧ A.heap[W.heap.size + 1 + 1]? = some (.cells #[.bool false] 4 (0, 0))

/-- 'return out, true' -/
theorem grant {A : World} {b4 b5 : Nat} {v0 v1 v2 v3 v4 v5 w0 w1 w2 w3 w4 : Value} (h4 : A.heap[b4]? = some (.cells #[v0, v1, v2, v3, v4] 125 (0, 0))) (h5 : A.heap[b5]? = some (.cells #[v5] 4 (0, 0))) (hne : b4 ≠ b5) :
    Mv (fun b => b = b4 ∨ b = b5) A ((((((A.setCell ⟨b4, 0, none⟩ w0).setCell ⟨b4, 1, none⟩ w1).setCell ⟨b4, 2, none⟩ w2).setCell ⟨b4, 3, none⟩ w3).setCell ⟨b4, 4, none⟩ w4).setCell ⟨b5, 0, none⟩ (.bool true)) ∧
    ((((((A.setCell ⟨b4, 0, none⟩ w0).setCell ⟨b4, 1, none⟩ w1).setCell ⟨b4, 2, none⟩ w2).setCell ⟨b4, 3, none⟩ w3).setCell ⟨b4, 4, none⟩ w4).setCell ⟨b5, 0, none⟩ (.bool true)).heap[b4]? = some (.cells #[w0, w1, w2, w3, w4] 125 (0, 0)) ∧
    ((((((A.setCell ⟨b4, 0, none⟩ w0).setCell ⟨b4, 1, none⟩ w1).setCell ⟨b4, 2, none⟩ w2).setCell ⟨b4, 3, none⟩ w3).setCell ⟨b4, 4, none⟩ w4).setCell ⟨b5, 0, none⟩ (.bool true)).heap[b5]? = some (.cells #[.bool true] 4 (0, 0)) := by
  have h0 := setCell_blk (i := 0) (u := w0) h4
  have h1 := setCell_blk (i := 1) (u := w1) h0
  have h2 := setCell_blk (i := 2) (u := w2) h1
  have h3 := setCell_blk (i := 3) (u := w3) h2
  have h4' := setCell_blk (i := 4) (u := w4) h3
  simp only [List.setIfInBounds_toArray, List.set_cons_succ, List.set_cons_zero] at h4'
  have m (W : World) (i : Nat) (u : Value) : Mv (fun b => b = b4 ∨ b = b5) W (W.setCell ⟨b4, i, none⟩ u) := (Mv.setCell W ⟨b4, i, none⟩ u).mono (fun x hx => .inl (.inl hx))
  have m5 (W : World) (i : Nat) (u : Value) : Mv (fun b => b = b4 ∨ b = b5) W (W.setCell ⟨b5, i, none⟩ u) := (Mv.setCell W ⟨b5, i, none⟩ u).mono (fun x hx => .inl (.inr hx))
  have t2 {A B C : World} (h : Mv (fun b => b = b4 ∨ b = b5) A B) (k : Mv (fun b => b = b4 ∨ b = b5) B C) : Mv (fun b => b = b4 ∨ b = b5) A C := h.trans k (fun _ h => .inl h)
  have n4 (W : World) (i : Nat) (u : Value) : Mv (· = b4) W (W.setCell ⟨b4, i, none⟩ u) := Mv.setCell W ⟨b4, i, none⟩ u
  have t4 {A B C : World} (h : Mv (· = b4) A B) (k : Mv (· = b4) B C) : Mv (· = b4) A C := h.trans k (fun _ h => .inl h)
  refine ⟨t2 (t2 (t2 (t2 (t2 (m _ _ _) (m _ _ _)) (m _ _ _)) (m _ _ _)) (m _ _ _)) (m5 _ _ _), (Mv.setCell _ ⟨b5, 0, none⟩ _).heap h4' hne, ?_⟩
  have h5' := (t4 (t4 (t4 (t4 (n4 A 0 w0) (n4 _ 1 w1)) (n4 _ 2 w2)) (n4 _ 3 w3)) (n4 _ 4 w4)).heap h5 (fun e => hne e.symm)
  exact setCell_blk h5'

/-- 'return api.NetNode{}, false' in a round. -/
theorem refuse {A : World} {b4 b5 : Nat} {v0 v1 v2 v3 v4 v5 : Value} (h4 : A.heap[b4]? = some (.cells #[v0, v1, v2, v3, v4] 125 (0, 0))) (h5 : A.heap[b5]? = some (.cells #[v5] 4 (0, 0))) (hne : b4 ≠ b5) :
    Mv (fun b => b = b4 ∨ b = b5) A ((((((A.setCell ⟨b4, 0, none⟩ (.slice none 0 0)).setCell ⟨b4, 1, none⟩ (.int .u64 0)).setCell ⟨b4, 2, none⟩ (.bool false)).setCell ⟨b4, 3, none⟩ (.bool false)).setCell ⟨b4, 4, none⟩ (.bool false)).setCell ⟨b5, 0, none⟩ (.bool false)) ∧
    ((((((A.setCell ⟨b4, 0, none⟩ (.slice none 0 0)).setCell ⟨b4, 1, none⟩ (.int .u64 0)).setCell ⟨b4, 2, none⟩ (.bool false)).setCell ⟨b4, 3, none⟩ (.bool false)).setCell ⟨b4, 4, none⟩ (.bool false)).setCell ⟨b5, 0, none⟩ (.bool false)).heap[b4]? = some (.cells #[.slice none 0 0, .int .u64 0, .bool false, .bool false, .bool false] 125 (0, 0)) ∧
    ((((((A.setCell ⟨b4, 0, none⟩ (.slice none 0 0)).setCell ⟨b4, 1, none⟩ (.int .u64 0)).setCell ⟨b4, 2, none⟩ (.bool false)).setCell ⟨b4, 3, none⟩ (.bool false)).setCell ⟨b4, 4, none⟩ (.bool false)).setCell ⟨b5, 0, none⟩ (.bool false)).heap[b5]? = some (.cells #[.bool false] 4 (0, 0)) := by
  have h0 := setCell_blk (i := 0) (u := .slice none 0 0) h4
  have h1 := setCell_blk (i := 1) (u := .int .u64 0) h0
  have h2 := setCell_blk (i := 2) (u := .bool false) h1
  have h3 := setCell_blk (i := 3) (u := .bool false) h2
  have h4' := setCell_blk (i := 4) (u := .bool false) h3
  simp only [List.setIfInBounds_toArray, List.set_cons_succ, List.set_cons_zero] at h4'
  have m (W : World) (i : Nat) (u : Value) : Mv (fun b => b = b4 ∨ b = b5) W (W.setCell ⟨b4, i, none⟩ u) := (Mv.setCell W ⟨b4, i, none⟩ u).mono (fun x hx => .inl (.inl hx))
  have m5 (W : World) (i : Nat) (u : Value) : Mv (fun b => b = b4 ∨ b = b5) W (W.setCell ⟨b5, i, none⟩ u) := (Mv.setCell W ⟨b5, i, none⟩ u).mono (fun x hx => .inl (.inr hx))
  have t2 {A B C : World} (h : Mv (fun b => b = b4 ∨ b = b5) A B) (k : Mv (fun b => b = b4 ∨ b = b5) B C) : Mv (fun b => b = b4 ∨ b = b5) A C := h.trans k (fun _ h => .inl h)
  have n4 (W : World) (i : Nat) (u : Value) : Mv (· = b4) W (W.setCell ⟨b4, i, none⟩ u) := Mv.setCell W ⟨b4, i, none⟩ u
  have t4 {A B C : World} (h : Mv (· = b4) A B) (k : Mv (· = b4) B C) : Mv (· = b4) A C := h.trans k (fun _ h => .inl h)
  refine ⟨t2 (t2 (t2 (t2 (t2 (m _ _ _) (m _ _ _)) (m _ _ _)) (m _ _ _)) (m _ _ _)) (m5 _ _ _), (Mv.setCell _ ⟨b5, 0, none⟩ _).heap h4' hne, ?_⟩
  have h5' := (t4 (t4 (t4 (t4 (n4 A 0 (.slice none 0 0)) (n4 _ 1 (.int .u64 0))) (n4 _ 2 (.bool false))) (n4 _ 3 (.bool false))) (n4 _ 4 (.bool false))).heap h5 (fun e => hne e.symm)
  exact setCell_blk h5'

theorem node_end {H wb mb : Nat} {T : TypeId} {r0 : Value} {most : Int} {so : Option Addr} {sc : Nat} {ss : List ByteArray} {cnt : Nat} {M : Sem} {st : ByteArray} {W A : World} {D : Nat} {v0 v1 v2 v3 v4 : Value} {bb : Bool} (hD : A.heap[D]? = some (.deferred (some []))) (hlD : W.heap.size ≤ D) (k4 : A.heap[W.heap.size + 1]? = some (.cells #[v0, v1, v2, v3, v4] 125 (0, 0))) (k5 : A.heap[W.heap.size + 1 + 1]? = some (.cells #[.bool bb] 4 (0, 0)))
    (hmv : Mv (WS wb mb so ss.length sc) W A) (hp : ∀ A', Mv (· = D) A A' → Mv (WS wb mb so ss.length sc) W A' → NodeOut H wb mb T r0 most so sc ss cnt M st W (.returned (.tuple #[(.agg #[v0, v1, v2, v3, v4]), .bool bb])) A') :
    ∀ Tm : Array Value, Tm.getD 4 undef = .pointer (some ⟨W.heap.size + 1, 0, none⟩) → Tm.getD 5 undef = .pointer (some ⟨W.heap.size + 1 + 1, 0, none⟩) → bodyPostM Fence.wide 5 Tryd.prog Tryd.f53 (NodeOut H wb mb T r0 most so sc ss cnt M st W) Exit.ret { tmps := Tm, defers := [{ target := Target.collected D, args := #[] }] } A := by
  intro Tm h4 h5
  refine ⟨by simp, .inl ⟨_, _, rfl, run_takeDeferred hD, ?_⟩⟩
  have hm : Mv (· = D) A (A.putObj D (.deferred none)) := mv_putObj A D _
  have n4 := hm.heap k4 (fun e => by rw [e, hD] at k4; simp at k4)
  have n5 := hm.heap k5 (fun e => by rw [e, hD] at k5; simp at k5)
  refine ⟨.tuple #[(.agg #[v0, v1, v2, v3, v4]), .bool bb], ?_, hp _ hm (hmv.trans hm (fun x hx => .inr (by omega)))⟩
  obtain ⟨q0, q1, q2, q3, q4⟩ := cells5 n4
  have c5 := cell_blk n5 0
  simp only [List.size_toArray, List.length_cons, List.length_nil, Nat.reduceAdd, Nat.lt_add_one, Nat.reduceLT, getElem?_pos, List.getElem_toArray, List.getElem_cons_zero] at c5
  have h4' : Tm[4]?.getD undef = .pointer (some ⟨W.heap.size + 1, 0, none⟩) := by simpa using h4
  have h5' : Tm[5]?.getD undef = .pointer (some ⟨W.heap.size + 1 + 1, 0, none⟩) := by simpa using h5
  simp [results, Tryd.results53, go_sem, h4', h5', q0, q1, q2, q3, q4, c5]

set_option maxHeartbeats 8000000 in
set_option maxRecDepth 100000 in
theorem node_any (H wb mb : Nat) (T : TypeId) (r0 : Value) (most : Int) (so : Option Addr) (sc : Nat) (ss : List ByteArray) (cnt : Nat) (F : Nat → Prop) (M : Sem) (st : ByteArray) (W : World) (h : WK H W wb mb T r0 most so sc ss cnt) (hs : SysAt F W T r0 M) (hF : ∀ b, F b → b < H) (hM : M.Fine) (hst : Short st) (hl : (ss.length : Int) ≤ most) (hm : most ≤ 20000) (hc : cnt ≤ 262144) :
    Calls Tryd.prog 53 #[.pointer (some ⟨wb, 0, none⟩), .string st] W (NodeOut H wb mb T r0 most so sc ss cnt M st W) := by
  have HW := hid h
  have HS := hid hs
  have HF := hid hF
  have HM := hid hM
  have HST := hid hst
  have HLL := hid (And.intro hl hm)
  have HCN := hid hc
  have HHW : Hid (H ≤ W.heap.size) := by have h1 := h.hw; have h2 := lt_of_block h.blk; show H ≤ _; omega
  have HSL : Hid (∀ A, Nu W A → SysAt F A T r0 M) := fun A hA => hs.nu hA
  clear h hs hF hM hst hl hm hc
  refine (callsIn_wide (n := 5)).1 ?_
  refine callsIn_of_wp_marks Tryd.func53 rfl trivial ?_ rfl
  simp only [Tryd.ntmps53, List.size_toArray, List.length_cons, List.length_nil, Nat.reduceAdd, Nat.reduceSub, Array.replicate_succ, Array.replicate_zero, List.push_toArray, List.append_toArray, List.nil_append, List.cons_append]
  gi_upto_region 1 with fail
  obtain ⟨Wa, hWa⟩ : ∃ Wa, Wa = W.alloc (.cells #[.pointer (some ⟨wb, 0, none⟩)] 90) := ⟨_, rfl⟩
  obtain ⟨Wb, hWb⟩ : ∃ Wb, Wb = Wa.alloc (.cells #[.slice none 0 0, .int .u64 0, .bool false, .bool false, .bool false] 125) := ⟨_, rfl⟩
  obtain ⟨Wc, hWc⟩ : ∃ Wc, Wc = Wb.alloc (.cells #[.bool false] 4) := ⟨_, rfl⟩
  rw [← hWa, ← hWb, ← hWc]
  have za : Wa.heap.size = W.heap.size + 1 := by rw [hWa]; exact World.size_alloc _ _
  have zb : Wb.heap.size = W.heap.size + 2 := by rw [hWb, World.size_alloc, za]
  have zc : Wc.heap.size = W.heap.size + 3 := by rw [hWc, World.size_alloc, zb]
  have na : Nu W Wa := by rw [hWa]; exact Mv.alloc _ _ _
  have nb : Nu Wa Wb := by rw [hWb]; exact Mv.alloc _ _ _
  have nc : Nu Wb Wc := by rw [hWc]; exact Mv.alloc _ _ _
  have HNC : Hid (Nu W Wc) := mv0 na (mv0 nb nc)
  have HK2 : Hid (Wc.heap[W.heap.size]? = some (.cells #[.pointer (some ⟨wb, 0, none⟩)] 90 (0, 0))) := (mv0 nb nc).heap (by rw [hWa]; exact heap_alloc_new W _) id
  have HK4 : Hid (Wc.heap[W.heap.size + 1]? = some (.cells #[.slice none 0 0, .int .u64 0, .bool false, .bool false, .bool false] 125 (0, 0))) := nc.heap (by have := heap_alloc_new Wa (.cells #[.slice none 0 0, .int .u64 0, .bool false, .bool false, .bool false] 125); rw [← hWb, za] at this; exact this) id
  have HK5 : Hid (Wc.heap[W.heap.size + 1 + 1]? = some (.cells #[.bool false] 4 (0, 0))) := by have := heap_alloc_new Wb (.cells #[.bool false] 4); rw [← hWc, zb] at this; exact this
  have HZC := hid zc
  clear hWa hWb hWc za zb zc na nb nc
  have c2 := cell_blk HK2.out 0
  have hwkc := HW.out.nu HNC.out
  have c0 := cell_blk hwkc.blk 0
  simp only [List.size_toArray, List.length_cons, List.length_nil, Nat.reduceAdd, Nat.lt_add_one, Nat.reduceLT, getElem?_pos, List.getElem_toArray, List.getElem_cons_zero, List.getElem_cons_succ, Nat.zero_lt_succ] at c2 c0
  obtain ⟨fL, rL, ⟨hmL, heL', hnL⟩, hcL⟩ := ((HSL.out Wc HNC.out).does Wc (KeepF.refl _ _)).lk
  have heL : ∀ args w, (callFunc fL args).run Tryd.prog w = .ok (.enter fL args) w := heL'
  have HCL := hcL st HST.out
  have HCL' : Hid _ := HCL
  clear HCL hcL heL' hwkc
  gi_wp2_with fail
  refine ⟨by trivial, ?_⟩
  refine (callsIn_wide.2 HCL'.out).mono ?_
  rintro e Wd ⟨rfl, hnd⟩
  have HND := hid (mv0 HNC.out hnd)
  have HNCD := hid hnd
  obtain ⟨sg, hsg⟩ : ∃ sg, M.look st = sg := ⟨_, rfl⟩
  rw [hsg]
  have HSG := hid hsg
  clear hnd hsg hmL heL hnL HCL' c2 c0
  simp only [sval]
  gi_upto_region 3 with fail
  obtain ⟨Wf, hWf⟩ : ∃ Wf, Wf = Wd.alloc (.cells #[.int .u64 sg.props, .bool sg.en, .bool sg.pr, .bool sg.ac] 62) := ⟨_, rfl⟩
  obtain ⟨We, hWe⟩ : ∃ We, We = Wf.alloc (.cells #[.slice none 0 0, .int .u64 sg.props, .bool sg.en, .bool sg.pr, .bool sg.ac] 125) := ⟨_, rfl⟩
  rw [← hWf, ← hWe]
  have zf : Wf.heap.size = Wd.heap.size + 1 := by rw [hWf]; exact World.size_alloc _ _
  have ze : We.heap.size = Wd.heap.size + 2 := by rw [hWe, World.size_alloc, zf]
  have nf : Nu Wd Wf := by rw [hWf]; exact Mv.alloc _ _ _
  have ne : Nu Wf We := by rw [hWe]; exact Mv.alloc _ _ _
  have HNE : Hid (Nu W We) := mv0 HND.out (mv0 nf ne)
  have hnce : Nu Wc We := mv0 HNCD.out (mv0 nf ne)
  have HK2e := hid (hnce.heap HK2.out id)
  have HK4e := hid (hnce.heap HK4.out id)
  have HK5e := hid (hnce.heap HK5.out id)
  have HK7e : Hid (We.heap[Wd.heap.size + 1]? = some (.cells #[.slice none 0 0, .int .u64 sg.props, .bool sg.en, .bool sg.pr, .bool sg.ac] 125 (0, 0))) := by have := heap_alloc_new Wf (.cells #[.slice none 0 0, .int .u64 sg.props, .bool sg.en, .bool sg.pr, .bool sg.ac] 125); rw [← hWe, zf] at this; exact this
  have HZD : Hid (W.heap.size + 3 ≤ Wd.heap.size) := by have := HNCD.out.size; have := HZC.out; show _ ≤ _; omega
  have HZE := hid ze
  clear hWf hWe zf ze nf ne hnce HK2 HK4 HK5 HNCD HNC HZC
  have c2 := cell_blk HK2e.out 0
  have hwke := HW.out.nu HNE.out
  have c0 := cell_blk hwke.blk 0
  simp only [List.size_toArray, List.length_cons, List.length_nil, Nat.reduceAdd, Nat.lt_add_one, Nat.reduceLT, getElem?_pos, List.getElem_toArray, List.getElem_cons_zero, List.getElem_cons_succ, Nat.zero_lt_succ] at c2 c0
  obtain ⟨fN, rN, ⟨hmN, heN', hnN⟩, hcN⟩ := ((HSL.out We HNE.out).does We (KeepF.refl _ _)).nx
  have heN : ∀ args w, (callFunc fN args).run Tryd.prog w = .ok (.enter fN args) w := heN'
  have HCL := hcN st HST.out
  have HCL' : Hid _ := HCL
  clear HCL hcN heN' hwke
  generalize hb7 : Wd.heap.size + 1 = b7 at *
  gi_wp2_with fail
  refine ⟨by trivial, ?_⟩
  refine (callsIn_wide.2 HCL'.out).mono ?_
  rintro e wL ⟨gf, lb, G, rfl, hn1, hentg, hG, hseq⟩
  have HNL : Hid (Nu W wL) := mv0 HNE.out hn1
  have HK : Hid (wL.heap[W.heap.size]? = some (.cells #[.pointer (some ⟨wb, 0, none⟩)] 90 (0, 0)) ∧ wL.heap[W.heap.size + 1]? = some (.cells #[.slice none 0 0, .int .u64 0, .bool false, .bool false, .bool false] 125 (0, 0)) ∧ wL.heap[W.heap.size + 1 + 1]? = some (.cells #[.bool false] 4 (0, 0)) ∧ wL.heap[b7]? = some (.cells #[.slice none 0 0, .int .u64 sg.props, .bool sg.en, .bool sg.pr, .bool sg.ac] 125 (0, 0))) :=
    ⟨hn1.heap HK2e.out id, hn1.heap HK4e.out id, hn1.heap HK5e.out id, hn1.heap HK7e.out id⟩
  have HZL : Hid (We.heap.size ≤ wL.heap.size ∧ W.heap.size + 3 ≤ b7 ∧ b7 < We.heap.size) := ⟨hn1.size, by have := HZD.out; omega, by have := HZE.out; omega⟩
  have HG : Hid (∀ b, G b → b < wL.heap.size ∧ (b < H ∨ We.heap.size ≤ b)) := fun b hb => ⟨(hG b hb).1, (hG b hb).2.imp (fun h => HF.out b h) id⟩
  clear hn1 hG HCL' hmN heN hnN HK2e HK4e HK5e HK7e hb7 HZD HZE c2 c0
  have h00 : NI H wb mb T r0 most W (WS wb mb so ss.length sc) (wL.heap.size + 2) W.heap.size (W.heap.size + 1) (W.heap.size + 1 + 1) b7 sg wL so sc ⟨ss, cnt, []⟩ none 0 [] :=
    ⟨HW.out.nu HNL.out, HK.out.1, HK.out.2.1, HK.out.2.2.1, HK.out.2.2.2, ⟨rfl, .inl ⟨rfl, rfl⟩⟩, rfl, fun _ h => absurd h (by simp), HNL.out.mono (fun _ h => h.elim), fun b hb => .inl hb⟩
  have HN0 := hid h00
  clear h00
  gi_wp2
  refine range_net (gf := gf) (lb := lb) rfl hentg (hseq 4 (by omega)) (fun b hb => (HG.out b hb).1) rfl
    (NInv H wb mb T r0 most W (WS wb mb so ss.length sc) (wL.heap.size + 2) b7 sg ss cnt (M.next st))
    (NStop most W (WS wb mb so ss.length sc) ss cnt (M.next st))
    ?abI ?abX (NO wb mb so ss.length sc (W.heap.size + 1) (W.heap.size + 1 + 1) b7 none 0 0) ⟨so, sc, ⟨ss, cnt, []⟩, none, 0, [], HN0.out, rfl, rfl, rfl⟩ ?own
    (fun s A => ∃ xb, s.2 = { tmps := #[.pointer (some ⟨wb, 0, none⟩), .string st, .pointer (some ⟨W.heap.size, 0, none⟩), undef, .pointer (some ⟨W.heap.size + 1, 0, none⟩), .pointer (some ⟨W.heap.size + 1 + 1, 0, none⟩), .pointer (some ⟨Wd.heap.size, 0, none⟩), .pointer (some ⟨b7, 0, none⟩), .pointer (some ⟨xb, 0, none⟩), undef, undef, .pointer (some ⟨wb, 0, none⟩), .pointer (some ⟨wb, 0, none⟩), .pointer (some ⟨wb, 0, none⟩), .iface T r0, .string st, .agg #[.int .u64 sg.props, .bool sg.en, .bool sg.pr, .bool sg.ac], .pointer (some ⟨Wd.heap.size, 0, none⟩), .int .u64 sg.props, .pointer (some ⟨Wd.heap.size, 1, none⟩), .bool sg.en, .pointer (some ⟨Wd.heap.size, 2, none⟩), .bool sg.pr, .pointer (some ⟨Wd.heap.size, 3, none⟩), .bool sg.ac, .agg #[.slice none 0 0, .int .u64 sg.props, .bool sg.en, .bool sg.pr, .bool sg.ac], .pointer (some ⟨wb, 0, none⟩), .pointer (some ⟨wb, 0, none⟩), .pointer (some ⟨wb, 0, none⟩), .iface T r0, .string st, .func (.func gf) #[] lb, s.1.val, undef, undef, undef, undef, undef, undef, undef, undef, undef, undef, undef, undef, undef, undef, undef, undef, undef, undef, undef, undef, undef, undef, undef, undef, undef, undef, undef, undef], defers := [] } ∧ A.heap[xb]? = some (.cells s.1.cells.toArray 41 (0, 0)) ∧ wL.heap.size + 2 ≤ xb)
    ?abA ?assign ?body ?done ?stop
  case assign =>
    intro l x A K hsz hK
    have hc : x.enc = #[.agg x.cells.toArray] := rfl
    simp only [hc, X.cells]
    gi_wp2
    exact hK _ _ (Mv.alloc _ _ _) ⟨A.heap.size, rfl, heap_alloc_new A _, hsz⟩
  case abI =>
    rintro ⟨pre, O⟩ A A' ⟨so', sc', u, va, vac, axs, h, h2, h3, hO⟩ hm
    exact ⟨so', sc', u, va, vac, axs, h.books hm HNL.out.size, h2, h3, hO⟩
  case abX =>
    rintro c pre A A' ⟨hc, h1, h2, h3, h4⟩ hm
    have hn : ∀ {b : Nat} {o : Obj}, A.heap[b]? = some o → bookO o = false → ¬ (wL.heap.size ≤ b ∧ ∃ o, A.heap[b]? = some o ∧ bookO o = true) := fun {b o} hb ho ⟨_, o', h1, h2⟩ => by
      rw [hb] at h1; cases h1; rw [ho] at h2; cases h2
    exact ⟨hc, h1, h2.trans hm (fun b hb => .inr (Nat.le_trans HNL.out.size hb.1)), hm.heap h3 (hn h3 rfl), hm.heap h4 (hn h4 rfl)⟩
  case abA =>
    rintro ⟨x, a1⟩ A A' ⟨xb, he, hb, hz⟩ hm
    exact ⟨xb, he, hm.heap hb (fun hs => by
      obtain ⟨_, o, ho, hb'⟩ := hs
      rw [hb] at ho; cases ho; simp [bookO] at hb'), hz⟩
  case own =>
    rintro ⟨pre, O⟩ A ⟨so', sc', u, va, vac, axs, h, h2, h3, hO⟩ b hb
    simp only at hO
    subst hO
    have hz := HZL.out
    have hHW := HHW.out
    rcases hb with hb | rfl | rfl | rfl | hb
    · obtain ⟨g1, g2⟩ := h.wk.ge hb
      rcases h.ws b hb with g3 | g3
      · have g4 := (HW.out.ge g3).2
        refine ⟨g2, fun hg => ?_, .inl (by omega)⟩
        rcases (HG.out b hg).2 with g5 | g5 <;> omega
      · exact ⟨g2, fun hg => by have := (HG.out b hg).1; omega, .inr g3⟩
    · refine ⟨lt_of_block h.k7, fun hg => ?_, .inl (by omega)⟩
      rcases (HG.out _ hg).2 with g5 | g5 <;> omega
    · refine ⟨lt_of_block h.k4, fun hg => ?_, .inl (by omega)⟩
      rcases (HG.out _ hg).2 with g5 | g5 <;> omega
    · refine ⟨lt_of_block h.k5, fun hg => ?_, .inl (by omega)⟩
      rcases (HG.out _ hg).2 with g5 | g5 <;> omega
    · obtain ⟨g1, g2, _⟩ := row_blk h.arow hb
      exact ⟨g2, fun hg => by have := (HG.out b hg).1; omega, .inr g1⟩
  case body =>
    rintro l pre x O a₁ A ⟨so', sc', u, va, vac, axs, hni, hu, hpm, hO⟩ ⟨xb, ha, hxb, hxz⟩ hx hsz hown hno
    simp only at hO ha hxb hni hu hpm
    subst hO ha
    have HNI := hid hni
    have hlm : ((⟨ss, cnt, []⟩ : Und).states.length : Int) ≤ most := HLL.out.1
    have hm0 : 0 ≤ most := by omega
    have hul := (allMoves_len hu (by show ss.length ≤ _; simp only at hlm; omega)).1
    have huc := allMoves_cnt hu HCN.out (by show ss.length ≤ _; simp only at hlm; omega)
    have HUA : Hid ((u.arcs.length : Int) ≤ 262144) := by
      have h1 := allMoves_arcs hu
      have h2 := (allMoves_len hu (by show ss.length ≤ _; simp only at hlm; omega)).2.2
      simp only [List.length_nil, Nat.zero_add] at h1 h2
      show _ ≤ _
      omega
    have HUL : Hid (u.states.length ≤ 20000) := by have := HLL.out.2; show _ ≤ _; omega
    have HU : Hid (allMoves most.toNat ⟨ss, cnt, []⟩ ((M.next st).take pre.length) = some u) := by rw [← hpm]; exact hu
    have HX := hid hx
    have HPM := hid hpm
    have HM0 := hid hm0
    have HSH : Hid (Short x.m.to) := HM.out.n st x.m (List.mem_of_getElem? hx)
    have HOX := hid hown
    have HXB := hid hxb
    have HSZ := hid hsz
    have c2 := cell_blk hni.k2 0
    obtain ⟨d0, d1, d2, d3, d4⟩ := cells5 hni.wk.blk
    have f4 := free_blk hni.wk.blk 4
    simp only [List.size_toArray, List.length_cons, List.length_nil, Nat.reduceAdd, Nat.lt_add_one, Nat.reduceLT, getElem?_pos, List.getElem_toArray, List.getElem_cons_zero, List.getElem_cons_succ, Nat.zero_lt_succ] at c2
    have huci : (u.cnt : Int) ≤ 262144 := by omega
    clear hni hu hpm hx hown hno hlm hm0 hul hxb
    gi_upto_region 6 with fail
    obtain ⟨hwk1, hm1⟩ := HNI.out.wk.count
    have HWK1 := hid hwk1
    have HM1 := hid hm1
    have c2' := cell_mv hm1 c2 (fun e => by
      have := HNI.out.k2
      rw [e, HNI.out.wk.blk] at this
      simp at this)
    obtain ⟨_, _, _, _, e4⟩ := cells5 hwk1.blk
    have e4' : (A.setCell ⟨wb, 4, none⟩ (.int .i64 ((u.cnt : Int) + 1))).cell? ⟨wb, 4, none⟩ = some (.int .i64 ((u.cnt : Int) + 1)) := by
      rw [e4]; simp
    clear c2 d0 d1 d2 d3 d4 f4 hwk1 hm1 e4
    generalize A.setCell ⟨wb, 4, none⟩ (.int .i64 ((u.cnt : Int) + 1)) = A1 at *
    have keep1 : ∀ {b : Nat} {cs : Array Value} {t : TypeId}, A.heap[b]? = some (.cells cs t (0, 0)) → t ≠ 93 → A1.heap[b]? = some (.cells cs t (0, 0)) := fun {b cs t} hb ht => HM1.out.heap hb (fun e => by
      rw [e, HNI.out.wk.blk] at hb
      simp only [Option.some.injEq, Obj.cells.injEq] at hb
      exact ht hb.2.1.symm)
    have HK4 := hid (keep1 HNI.out.k4 (by decide))
    have HK5 := hid (keep1 HNI.out.k5 (by decide))
    have HK2 := hid (keep1 HNI.out.k2 (by decide))
    have HXB1 := hid (keep1 HXB.out (by decide))
    clear keep1
    rcases Nat.lt_or_ge 262144 (u.cnt + 1) with hov | hov
    · have hov' : (262144 : Int) < (u.cnt : Int) + 1 := by omega
      have HFAIL := hid (moves_fail HU.out HX.out (oneMove_over hov))
      gi_upto_region 7 with fail
      clear c2' e4' hov hov'
      have hz := HZL.out
      obtain ⟨q0, q1, q2, q3, q4⟩ := cells5 HK4.out
      have y0 := free_blk HK4.out 0
      have y1 := free_blk HK4.out 1
      have y2 := free_blk HK4.out 2
      have y3 := free_blk HK4.out 3
      have y4 := free_blk HK4.out 4
      have q5 := cell_blk HK5.out 0
      have y5 := free_blk HK5.out 0
      simp only [List.size_toArray, List.length_cons, List.length_nil, Nat.reduceAdd, Nat.lt_add_one, Nat.reduceLT, getElem?_pos, List.getElem_toArray, List.getElem_cons_zero, List.getElem_cons_succ, Nat.zero_lt_succ] at q5
      have HR := hid (refuse HK4.out HK5.out (by omega))
      gi_wp2
      obtain ⟨hr1, hr2, hr3⟩ := HR.out
      have hmA : Mv (fun b => WS wb mb so' u.states.length sc' b ∨ b = W.heap.size + 1 ∨ b = W.heap.size + 1 + 1) A _ := (HM1.out.mono (fun b hb => .inl (.inl (.inl hb)))).trans hr1 (fun b hb => .inl (.inr hb))
      refine ⟨hmA.mono (fun b hb => .inl (.inl ?_)), rfl, HFAIL.out, HNI.out.mv.trans hmA (fun b hb => ?_), hr2, hr3⟩
      · rcases hb with hb | hb | hb
        · exact .inl hb
        · exact .inr (.inr (.inl hb))
        · exact .inr (.inr (.inr (.inl hb)))
      · rcases hb with hb | hb | hb
        · exact (HNI.out.ws b hb).imp id (fun h => by omega)
        · exact .inr (by omega)
        · exact .inr (by omega)
    · have hov' : ¬ (262144 : Int) < (u.cnt : Int) + 1 := by omega
      have HNOV := hid (show ¬ 262144 < u.cnt + 1 by omega)
      gi_upto_region 8 with fail
      clear e4' hov hov'
      have HXAT : Hid (XAt A1 xb 0 x) := by
        have hb := HXB1.out
        have hh : ∀ j v, x.cells[j]? = some v → A1.cell? ⟨xb, j, none⟩ = some v := fun j v hj => by rw [cell_blk hb]; simpa using hj
        exact ⟨hh 0 _ rfl, hh 1 _ rfl, hh 2 _ rfl, hh 3 _ rfl, hh 4 _ rfl, hh 5 _ rfl, hh 6 _ rfl, hh 7 _ rfl, hh 8 _ rfl⟩
      have HRW : Hid (IntsAt A1 A1.heap.size x.ra x.m.reads ∧ IntsAt A1 A1.heap.size x.wa x.m.writes) := by
        have key : ∀ {ao : Option Addr} {cp : Nat} {ys : List Int}, OwnI A (wL.heap.size + 2) ao cp ys → IntsAt A1 A1.heap.size ao ys := fun {ao cp ys} ho => (ho.mv HM1.out (fun a hp ha e => by
          rcases ho.row with h0 | ⟨g, cs, hg, hh, hc, _⟩
          · omega
          · rw [hg] at ha; cases ha
            simp only at e
            rw [e, HNI.out.wk.blk] at hc
            simp at hc) (Nat.le_refl _)).at
        exact ⟨key HOX.out.r, key HOX.out.w⟩
      have HXN := hid (HWK1.out.apart HXB1.out (by decide) (by decide))
      gi_upto_region 9 with (refine ⟨trivial, ?_⟩; gi_at_call 65; refine (CallsIn.inRound l (callsIn_wide.2 (arc_any H wb mb T r0 most so' sc' u.states (u.cnt + 1) xb x A1 HWK1.out HXAT.out HRW.out.1 HRW.out.2 HXN.out HSH.out HUL.out))).mono ?_; rintro e A2 hao; rcases hao.say HWK1.out HNOV.out HM0.out with ⟨ax, rfl, hom, hn2⟩ | ⟨ax, ss2, so2, sc2, rfl, hwk2, hm2, hws2, hax, hom⟩; all_goals (simp only [AX.val]))
      · have HFAIL := hid (moves_fail HU.out HX.out hom)
        have HN2 : Hid (Nu A1 (A2.alloc (.cells #[.int .i64 ax.a.proc, .int .i64 ax.a.to, .int .i64 ax.a.bad, .slice ax.ra ax.a.reads.length ax.rc, .slice ax.wa ax.a.writes.length ax.wc, .int .u64 ax.a.turns] 122))) := mv0 hn2 (Mv.alloc _ _ _)
        generalize A2.alloc (.cells #[.int .i64 ax.a.proc, .int .i64 ax.a.to, .int .i64 ax.a.bad, .slice ax.ra ax.a.reads.length ax.rc, .slice ax.wa ax.a.writes.length ax.wc, .int .u64 ax.a.turns] 122) = A3 at *
        have HK4b := hid (HN2.out.heap HK4.out id)
        have HK5b := hid (HN2.out.heap HK5.out id)
        clear c2' hn2 hom
        have hz := HZL.out
        obtain ⟨q0, q1, q2, q3, q4⟩ := cells5 HK4b.out
        have y0 := free_blk HK4b.out 0
        have y1 := free_blk HK4b.out 1
        have y2 := free_blk HK4b.out 2
        have y3 := free_blk HK4b.out 3
        have y4 := free_blk HK4b.out 4
        have q5 := cell_blk HK5b.out 0
        have y5 := free_blk HK5b.out 0
        simp only [List.size_toArray, List.length_cons, List.length_nil, Nat.reduceAdd, Nat.lt_add_one, Nat.reduceLT, getElem?_pos, List.getElem_toArray, List.getElem_cons_zero, List.getElem_cons_succ, Nat.zero_lt_succ] at q5
        have HR := hid (refuse HK4b.out HK5b.out (by omega))
        gi_wp2
        obtain ⟨hr1, hr2, hr3⟩ := HR.out
        have hmA : Mv (fun b => WS wb mb so' u.states.length sc' b ∨ b = W.heap.size + 1 ∨ b = W.heap.size + 1 + 1) A _ := ((HM1.out.mono (fun b hb => .inl (.inl (.inl hb)))).trans HN2.out (fun _ h => h.elim)).trans hr1 (fun b hb => .inl (.inr hb))
        refine ⟨hmA.mono (fun b hb => .inl (.inl ?_)), rfl, HFAIL.out, HNI.out.mv.trans hmA (fun b hb => ?_), hr2, hr3⟩
        · rcases hb with hb | hb | hb
          · exact .inl hb
          · exact .inr (.inr (.inl hb))
          · exact .inr (.inr (.inr (.inl hb)))
        · rcases hb with hb | hb | hb
          · exact (HNI.out.ws b hb).imp id (fun h => by omega)
          · exact .inr (by omega)
          · exact .inr (by omega)
      · have HMORE := hid (moves_more HU.out HX.out hom)
        have HWK2 := hid hwk2
        have HM2 := hid hm2
        have HWS2 := hid hws2
        have HAX := hid hax
        have HN3 : Hid (Nu A2 (A2.alloc (.cells #[.int .i64 ax.a.proc, .int .i64 ax.a.to, .int .i64 ax.a.bad, .slice ax.ra ax.a.reads.length ax.rc, .slice ax.wa ax.a.writes.length ax.wc, .int .u64 ax.a.turns] 122))) := Mv.alloc _ _ _
        have HB3 : Hid ((A2.alloc (.cells #[.int .i64 ax.a.proc, .int .i64 ax.a.to, .int .i64 ax.a.bad, .slice ax.ra ax.a.reads.length ax.rc, .slice ax.wa ax.a.writes.length ax.wc, .int .u64 ax.a.turns] 122)).heap[A2.heap.size]? = some (.cells #[.int .i64 ax.a.proc, .int .i64 ax.a.to, .int .i64 ax.a.bad, .slice ax.ra ax.a.reads.length ax.rc, .slice ax.wa ax.a.writes.length ax.wc, .int .u64 ax.a.turns] 122 (0, 0))) := heap_alloc_new A2 _
        generalize A2.alloc (.cells #[.int .i64 ax.a.proc, .int .i64 ax.a.to, .int .i64 ax.a.bad, .slice ax.ra ax.a.reads.length ax.rc, .slice ax.wa ax.a.writes.length ax.wc, .int .u64 ax.a.turns] 122) = A3 at *
        clear c2' hwk2 hm2 hws2 hax hom
        have h1 := HNI.out.wk.apart HNI.out.k7 (by decide) (by decide)
        have M13 : Mv (WS wb mb so' u.states.length sc') A A3 := ((HM1.out.mono (fun b hb => .inl (.inl hb))).trans HM2.out (fun b hb => .inl hb)).trans HN3.out (fun _ h => h.elim)
        have HK7 := hid (M13.heap HNI.out.k7 h1)
        have HRW3 := hid (row_mv M13 HNI.out.arow (fun k hk => by
          obtain ⟨_, _, cs, hc⟩ := row_blk HNI.out.arow hk
          exact HNI.out.wk.apart hc (by decide) (by decide)))
        have HZ3 : Hid (wL.heap.size + 2 ≤ A3.heap.size) := Nat.le_trans HSZ.out M13.size
        obtain ⟨p0, p1, p2, p3, p4, p5⟩ := cells6 HB3.out
        have k0 := cell_blk HK7.out 0
        simp only [List.size_toArray, List.length_cons, List.length_nil, Nat.reduceAdd, Nat.lt_add_one, Nat.reduceLT, getElem?_pos, List.getElem_toArray, List.getElem_cons_zero, List.getElem_cons_succ, Nat.zero_lt_succ] at k0
        clear h1 M13
        gi_upto_region 11 with fail
        obtain ⟨i0, hi0, hz0, hz1, hz2⟩ := info_parts c_infoArc
        have HN4 : Hid (Nu A3 (A3.alloc (.cells #[.int .i64 ax.a.proc, .int .i64 ax.a.to, .int .i64 ax.a.bad, .slice ax.ra ax.a.reads.length ax.rc, .slice ax.wa ax.a.writes.length ax.wc, .int .u64 ax.a.turns] 122))) := Mv.alloc _ _ _
        have HRW4 := hid (row_mv HN4.out HRW3.out (fun _ _ => id))
        have HNB : Hid (∀ q v, ([.int .i64 ax.a.proc, .int .i64 ax.a.to, .int .i64 ax.a.bad, .slice ax.ra ax.a.reads.length ax.rc, .slice ax.wa ax.a.writes.length ax.wc, .int .u64 ax.a.turns] : List Value)[q]? = some v → (A3.alloc (.cells #[.int .i64 ax.a.proc, .int .i64 ax.a.to, .int .i64 ax.a.bad, .slice ax.ra ax.a.reads.length ax.rc, .slice ax.wa ax.a.writes.length ax.wc, .int .u64 ax.a.turns] 122)).cell? ((⟨A3.heap.size, 0, none⟩ : Addr).add q) = some v) := fun q v hj => by
          rw [add_block, cell_blk (heap_alloc_new A3 _)]; simpa using hj
        have hal : (u.arcs.length : Int) ≤ 262144 := HUA.out
        gi_wp2_with (gi_at_builtin; refine wpListIn_append_lies _ rfl _ _ 123 rfl (wL.heap.size + 2) 122 i0 (.agg #[.int .i64 0, .int .i64 0, .int .i64 0, .slice none 0 0, .slice none 0 0, .int .u64 0]) 6 80 Tryd.underlying123 hi0 hz0 hz1 hz2 rfl (by decide) _ u.arcs.length (axflat axs) rfl HRW4.out ⟨A3.heap.size, 0, none⟩ 1 1 [.int .i64 ax.a.proc, .int .i64 ax.a.to, .int .i64 ax.a.bad, .slice ax.ra ax.a.reads.length ax.rc, .slice ax.wa ax.a.writes.length ax.wc, .int .u64 ax.a.turns] rfl rfl HNB.out (by simp [Value.oneCell']) (by decide) (by unfold maxLen; omega) (by omega) (by have := HZ3.out; simp; omega) ?_)
        intro g' vac' A4 ho4 hg4 hgg
        obtain ⟨hni2, hmv2, hsz2⟩ := HNI.out.step (by have := HZL.out; omega) (by have := HZL.out; omega) (by have := HNL.out.size; omega) HSZ.out HM1.out HWK2.out HM2.out HWS2.out HAX.out (mv0 HN3.out HN4.out) hg4 ho4 (hgg.elim (fun h => Or.inl h) (fun h => Or.inr (by rw [World.size_alloc]; exact h)))
        have hk7 := (Mv.grown hg4).heap (HN4.out.heap HK7.out id) (fun e => by
          obtain ⟨_, _, cs', hc⟩ := row_blk HRW3.out e
          rw [HK7.out] at hc
          simp at hc)
        have j0 := cell_blk hk7 0
        have z7 := free_blk hk7 0
        simp only [List.size_toArray, List.length_cons, List.length_nil, Nat.reduceAdd, Nat.lt_add_one, Nat.reduceLT, getElem?_pos, List.getElem_toArray, List.getElem_cons_zero, List.getElem_cons_succ, Nat.zero_lt_succ] at j0
        have HNI2 := hid hni2
        have HMV2 := hid hmv2
        have HGG := hid hgg
        have HSZ2 := hid hsz2
        clear hni2 hmv2 hsz2 hgg ho4 hg4 hk7 k0 p0 p1 p2 p3 p4 p5
        gi_wp2
        have hpl : (pre ++ [x]).length = pre.length + 1 := by simp
        have hpm2 : (pre ++ [x]).map X.m = (M.next st).take (pre ++ [x]).length := by
          rw [List.map_append, HPM.out, hpl, List.take_add_one, HX.out]
          rfl
        refine ⟨_, ⟨so2, sc2, _, some ⟨g', 0, none⟩, vac', _, HNI2.out, by rw [hpm2, hpl]; exact HMORE.out, hpm2, rfl⟩, fun b hb => ?_, HMV2.out.mono (fun b hb => .inl (.inl ?_))⟩
        · rcases hb with hb | hb | hb | hb | hb
          · rcases HWS2.out b hb with h | h
            · exact .inl (.inl h)
            · exact .inr (.inr (Nat.le_trans HM1.out.size h))
          · exact .inl (.inr (.inl hb))
          · exact .inl (.inr (.inr (.inl hb)))
          · exact .inl (.inr (.inr (.inr (.inl hb))))
          · simp only [Value.ownBlock, Option.some.injEq] at hb
            subst hb
            rcases HGG.out with h | h
            · exact .inl (.inr (.inr (.inr (.inr h))))
            · exact .inr (.inr (by rw [h]; have h9 := HSZ2.out; rw [World.size_alloc] at h9; exact h9))
        · rcases hb with hb | hb | hb
          · exact .inl hb
          · exact .inr (.inl hb)
          · exact .inr (.inr (.inr (.inr hb)))
  case stop =>
    rintro D c pre A hD ⟨rfl, hfail, hmv, k4, k5⟩ hK
    have HE := hid (node_end (H := H) (T := T) (r0 := r0) (M := M) (st := st) (most := most) (cnt := cnt) hK (Nat.le_trans HNL.out.size hD) k4 k5 hmv (fun A' _ hm => ⟨hm, .inl ⟨hfail, rfl⟩⟩))
    clear hfail hmv k4 k5 hK
    gi_wp2
    exact HE.out _ rfl rfl
  case done =>
    rintro D xs O A hD hxs ⟨so', sc', u, va, vac, axs, hni, hu, hpm, hO⟩ hK
    simp only at hni hu hpm
    have hz := HZL.out
    have hzn := HNL.out.size
    obtain ⟨q0, q1, q2, q3, q4⟩ := cells5 hni.k4
    have y0 := free_blk hni.k4 0
    have y1 := free_blk hni.k4 1
    have y2 := free_blk hni.k4 2
    have y3 := free_blk hni.k4 3
    have y4 := free_blk hni.k4 4
    obtain ⟨p0, p1, p2, p3, p4⟩ := cells5 hni.k7
    have q5 := cell_blk hni.k5 0
    have y5 := free_blk hni.k5 0
    simp only [List.size_toArray, List.length_cons, List.length_nil, Nat.reduceAdd, Nat.lt_add_one, Nat.reduceLT, getElem?_pos, List.getElem_toArray, List.getElem_cons_zero, List.getElem_cons_succ, Nat.zero_lt_succ] at q5
    obtain ⟨hr1, hr2, hr3⟩ := grant (w0 := .slice va u.arcs.length vac) (w1 := .int .u64 sg.props) (w2 := .bool sg.en) (w3 := .bool sg.pr) (w4 := .bool sg.ac) hni.k4 hni.k5 (by omega)
    have HU : Hid (allMoves most.toNat ⟨ss, cnt, []⟩ (M.next st) = some u) := by rw [← hxs]; exact hu
    have hD4 : D ≠ W.heap.size + 1 ∧ D ≠ W.heap.size + 1 + 1 := ⟨fun e => by rw [e, hni.k4] at hK; simp at hK, fun e => by rw [e, hni.k5] at hK; simp at hK⟩
    have hwk' : ∀ A', Mv (fun b => (b = W.heap.size + 1 ∨ b = W.heap.size + 1 + 1) ∨ b = D) A A' → WK H A' wb mb T r0 most so' sc' u.states u.cnt := fun A' hm => hni.wk.mv hm (fun b hb hx => by
      rcases hx with (rfl | rfl) | rfl
      · exact hni.wk.apart hni.k4 (by decide) (by decide) hb
      · exact hni.wk.apart hni.k5 (by decide) (by decide) hb
      · rcases hb with e | e | e
        · rw [e, hni.wk.blk] at hK; simp at hK
        · obtain ⟨es, clock, hc⟩ := hni.wk.mp.blk
          rw [e, hc] at hK; simp at hK
        · obtain ⟨_, _, cs, hc⟩ := row_blk hni.wk.st e
          rw [hc] at hK; simp at hK)
    have har' : ∀ A', Mv (fun b => (b = W.heap.size + 1 ∨ b = W.heap.size + 1 + 1) ∨ b = D) A A' → ArcsZ A' (Zt W.heap.size A') va axs := fun A' hm => by
      have hlx : axs.length = u.arcs.length := by rw [← hni.aeq, List.length_map]
      have hrow := hni.arow
      rw [← hlx] at hrow
      have hnot : ∀ b, Zt W.heap.size A b → ¬ ((b = W.heap.size + 1 ∨ b = W.heap.size + 1 + 1) ∨ b = D) := fun b ⟨_, cs, t, hc, ht⟩ hx => by
        rcases hx with (e | e) | e
        · rw [e, hni.k4] at hc; simp only [Option.some.injEq, Obj.cells.injEq] at hc; rcases ht with ht | ht <;> (rw [← hc.2.1] at ht; exact absurd ht (by decide))
        · rw [e, hni.k5] at hc; simp only [Option.some.injEq, Obj.cells.injEq] at hc; rcases ht with ht | ht <;> (rw [← hc.2.1] at ht; exact absurd ht (by decide))
        · rw [e, hK] at hc; simp at hc
      have huc := allMoves_arcs hu
      have hcc := (allMoves_len hu (by have := HLL.out.1; show ss.length ≤ _; omega)).2.2
      have hcn := allMoves_cnt hu HCN.out (by have := HLL.out.1; show ss.length ≤ _; omega)
      simp only [List.length_nil, Nat.zero_add] at huc hcc
      refine (ArcsZ.of_row (Z := Zt W.heap.size A) hrow (by omega) (fun b hb => ?_) (fun x hx => ?_)).mv hm hnot (fun b hb => ?_)
      · rw [hlx] at hb
        obtain ⟨g1, _, cs, hc⟩ := row_blk hni.arow hb
        exact ⟨by omega, cs, _, hc, .inr rfl⟩
      · exact (hni.az x hx).mv (Mv.refl (fun _ => False) _) (fun _ _ => id) (fun b ⟨g1, cs, hc⟩ => ⟨g1, cs, _, hc, .inl rfl⟩)
      · have hb' := hb
        obtain ⟨g1, cs, t, hc, ht⟩ := hb
        exact ⟨g1, cs, t, hm.heap hc (hnot b hb'), ht⟩
    have HE := hid (node_end (H := H) (T := T) (r0 := r0) (M := M) (st := st) (most := most) (cnt := cnt) (hr1.heap hK (fun e => by rcases e with e | e; exact hD4.1 e; exact hD4.2 e)) (Nat.le_trans HNL.out.size hD) hr2 hr3 (hni.mv.trans hr1 (fun b hb => .inr (by rcases hb with rfl | rfl <;> omega))) (fun A' hm hm0 => ⟨hm0, .inr ⟨u, va, vac, axs, so', sc', HU.out, by rw [HSG.out], hwk' A' ((hr1.mono (fun b hb => .inl (.inl hb))).trans hm (fun b hb => .inl (.inr hb))), hni.aeq, har' A' ((hr1.mono (fun b hb => .inl (.inl hb))).trans hm (fun b hb => .inl (.inr hb))), fun b hb => (hni.ws b hb).imp id (fun h => by omega)⟩⟩))
    clear hni hu hpm hxs hK hr1 hr2 hr3 hD4 hwk' har'
    gi_wp2
    exact HE.out _ rfl rfl

end Go.Proofs.YtiinmaedmkgfoaaDoor
/-
  A system explored: the program's all and Explore.
-/
set_option linter.unusedVariables false
set_option linter.unusedSimpArgs false
namespace Go.Proofs.YtiinmaedmkgfoaaDoor
open Go.RowKit

/-- What lies where between two states. -/
structure WA (H : Nat) (w A : World) (nodes : List Node) (no : Option Addr) (nc : Nat) (nxs : List NX) : Prop where
  row : A.ownsRow H 125 5 (.slice no nodes.length nc) nodes.length (nxflat nxs)
  eq : nxs.map NX.nd = nodes
  nz : ∀ y ∈ nxs, NXZ A (Zt H A) y
theorem Zt.mv {S : Nat → Prop} {H : Nat} {A A' : World} {b : Nat} (h : Zt H A b) (hm : Mv S A A') (hS : ¬ S b) : Zt H A' b := by
  obtain ⟨h1, cs, t, hc, ht⟩ := h
  exact ⟨h1, cs, t, hm.heap hc hS, ht⟩
theorem Zt.apart {H' H : Nat} {W : World} {wb mb : Nat} {T : TypeId} {r0 : Value} {most : Int} {so : Option Addr} {sc : Nat} {ss : List ByteArray} {cnt : Nat} {b : Nat} (hz : Zt H' W b) (h : WK H W wb mb T r0 most so sc ss cnt) : ¬ WS wb mb so ss.length sc b := by
  obtain ⟨_, cs, t, hc, ht⟩ := hz
  exact h.apart hc (by rcases ht with rfl | rfl <;> decide) (by rcases ht with rfl | rfl <;> decide)
theorem WA.mv {S : Nat → Prop} {H : Nat} {w A A' : World} {nodes : List Node} {no : Option Addr} {nc : Nat} {nxs : List NX} (h : WA H w A nodes no nc nxs) (hm : Mv S A A') (hr : ∀ k, (Value.slice no nodes.length nc).ownBlock = some k → ¬ S k) (hS : ∀ b, Zt H A b → ¬ S b) : WA H w A' nodes no nc nxs :=
  ⟨row_mv hm h.row hr, h.eq, fun y hy => (h.nz y hy).mv hm hS (fun b hb => hb.mv hm (hS b hb))⟩

/-- One node more. -/
theorem WA.step {H : Nat} {w A A1 A2 : World} {nodes : List Node} {no : Option Addr} {nc : Nat} {nxs : List NX} {x : NX} {g' nc' B : Nat} (h : WA H w A nodes no nc nxs) (hn : Nu A A1) (hg : A1.grownBy A2 (Value.slice no nodes.length nc).ownBlock) (hr : A2.ownsRow H 125 5 (.slice (some ⟨g', 0, none⟩) (nodes.length + 1) nc') (nodes.length + 1) (nxflat nxs ++ x.cells)) (hx : NXZ A (Zt B A) x) (hB : H ≤ B) :
    WA H w A2 (nodes ++ [x.nd]) (some ⟨g', 0, none⟩) nc' (nxs ++ [x]) ∧ Mv (fun b => (Value.slice no nodes.length nc).ownBlock = some b) A A2 := by
  have hm : Mv (fun b => (Value.slice no nodes.length nc).ownBlock = some b) A A2 := (hn.mono (fun _ h => h.elim)).trans (Mv.grown hg) (fun b hb => .inl hb)
  have hz : ∀ {B' : Nat} b, Zt B' A b → ¬ (Value.slice no nodes.length nc).ownBlock = some b := fun {B'} b ⟨_, cs, t, hc, ht⟩ e => by
    obtain ⟨_, _, cs', hc'⟩ := row_blk h.row e
    rw [hc] at hc'
    simp only [Option.some.injEq, Obj.cells.injEq] at hc'
    rcases ht with rfl | rfl
    · exact absurd hc'.2.1 (by decide)
    · exact absurd hc'.2.1 (by decide)
  have hl : (nodes ++ [x.nd]).length = nodes.length + 1 := by simp
  refine ⟨⟨by rw [hl, nxflat_snoc]; exact hr, by simp [h.eq], fun y hy => ?_⟩, hm⟩
  rcases List.mem_append.1 hy with hy | hy
  · exact (h.nz y hy).mv hm hz (fun b hb => hb.mv hm (hz b hb))
  · rw [List.mem_singleton.1 hy]
    exact hx.mv hm hz (fun b hb => by
      obtain ⟨h1, cs, t, hc, ht⟩ := hb
      exact ⟨by omega, cs, t, hm.heap hc (hz b ⟨h1, cs, t, hc, ht⟩), ht⟩)

/-- How far a system is explored. -/
structure EP (M : Sem) (most : Nat) (x : Expl) : Prop where
  run : explore M most most ⟨[], [M.begin], 0⟩ = explore M most (most - x.nodes.length) x
  le : x.nodes.length ≤ x.states.length
  most : x.states.length ≤ most
  cnt : x.cnt ≤ 262144
  short : ∀ s ∈ x.states, Short s
theorem EP.ends {M : Sem} {most : Nat} {x : Expl} (h : EP M most x) (he : x.nodes.length = x.states.length) : explored M most = some (x.nodes, x.states) := by
  unfold explored
  rw [h.run, explore_end (by rw [he]; simp)]
  rfl
theorem EP.fails {M : Sem} {most : Nat} {x : Expl} (h : EP M most x) {st : ByteArray} (hs : x.states[x.nodes.length]? = some st) (hf : allMoves most ⟨x.states, x.cnt, []⟩ (M.next st) = none) : explored M most = none := by
  have hlt := (List.getElem?_eq_some_iff.1 hs).1
  have := h.most
  unfold explored
  rw [h.run, show most - x.nodes.length = (most - x.nodes.length - 1) + 1 by omega, explore_step hs]
  unfold oneState
  rw [hf]
  rfl
theorem allMoves_short {most : Nat} {l : List Mov} : ∀ {u u' : Und}, allMoves most u l = some u' → (∀ s ∈ u.states, Short s) → (∀ m ∈ l, Short m.to) → ∀ s ∈ u'.states, Short s := by
  induction l with
  | nil => intro u u' h hu _; cases h; exact hu
  | cons m r ih =>
    intro u u' h hu hl
    obtain ⟨v, h1, h2⟩ := Option.bind_eq_some_iff.1 h
    refine ih h2 ?_ (fun m hm => hl m (List.mem_cons_of_mem _ hm))
    have hm := hl m List.mem_cons_self
    unfold oneMove at h1
    repeat' split at h1
    all_goals first
      | (cases h1; done)
      | (cases h1; exact hu)
      | (cases h1; intro s hs; rcases List.mem_append.1 hs with hs | hs; exact hu s hs; rw [List.mem_singleton.1 hs]; exact hm)
theorem EP.goes {M : Sem} {most : Nat} {x : Expl} {u : Und} (hM : M.Fine) (h : EP M most x) {st : ByteArray} (hs : x.states[x.nodes.length]? = some st) (hy : allMoves most ⟨x.states, x.cnt, []⟩ (M.next st) = some u) : EP M most ⟨x.nodes ++ [nodeOf (M.look st) u.arcs], u.states, u.cnt⟩ := by
  have hlt := (List.getElem?_eq_some_iff.1 hs).1
  have hmo := h.most
  obtain ⟨a, b, c⟩ := allMoves_len hy h.most
  have b' := b.length_le
  simp only at b'
  refine ⟨?_, by simp; omega, a, allMoves_cnt hy h.cnt h.most, allMoves_short hy h.short (fun m hm => hM.n st m hm)⟩
  rw [h.run, show most - x.nodes.length = (most - (x.nodes ++ [nodeOf (M.look st) u.arcs]).length) + 1 by simp; omega, explore_step hs]
  unfold oneState
  rw [hy]
  rfl

/-- What all answers. -/
def AllWOut (H wb mb : Nat) (T : TypeId) (r0 : Value) (most : Int) (M : Sem) (W : World) (e : Ending) (W' : World) : Prop :=
  Mv (fun b => H ≤ b) W W' ∧ ((explored M most.toNat = none ∧ e = .returned (.tuple #[.slice none 0 0, .bool false])) ∨
    ∃ ns ss cnt no nc nxs so sc, explored M most.toNat = some (ns, ss) ∧ e = .returned (.tuple #[.slice no (List.length (α := Node) ns) nc, .bool true]) ∧ WK H W' wb mb T r0 most so sc ss cnt ∧ WA H W W' ns no nc nxs ∧ ns.length ≤ 20000 ∧ ss.length ≤ 20000)

set_option maxHeartbeats 8000000 in
set_option maxRecDepth 100000 in
theorem walkall_any (H wb mb : Nat) (T : TypeId) (r0 : Value) (most : Int) (F : Nat → Prop) (M : Sem) (W : World) (h : WK H W wb mb T r0 most none 0 [] 0) (hs : SysAt F W T r0 M) (hF : ∀ b, F b → b < H) (hM : M.Fine) (h1 : 1 ≤ most) (h2 : most ≤ 20000) :
    Calls Tryd.prog 34 #[.pointer (some ⟨wb, 0, none⟩)] W (AllWOut H wb mb T r0 most M W) := by
  have HW := hid h
  have HF := hid hF
  have HM := hid hM
  have HMO := hid (And.intro h1 h2)
  have HHW : Hid (H ≤ W.heap.size) := by have h1 := h.hw; have h2 := lt_of_block h.blk; show H ≤ _; omega
  have HSL : Hid (∀ A, Mv (fun b => H ≤ b) W A → SysAt F A T r0 M) := fun A hA => hs.mv hA (fun b hb hx => by have := hF b hb; omega)
  obtain ⟨c0, c1, c2, c3, c4⟩ := cells5 h.blk
  obtain ⟨fB, rB, ⟨hmB, heB', hnB⟩, hcB⟩ := (hs.does W (KeepF.refl _ _)).bg
  have heB : ∀ args w, (callFunc fB args).run Tryd.prog w = .ok (.enter fB args) w := heB'
  have HCB : Hid _ := hcB
  clear h hs hF hM h1 h2 heB' hcB
  go_enter Tryd.func34, Tryd.ntmps34
  go_wp2_with fail
  refine Calls.mono HCB.out ?_
  rintro e w1 ⟨rfl, hn1⟩
  have HN1 := hid hn1
  have HW1 := hid (HW.out.nu hn1)
  clear hn1 HCB hmB heB hnB c0 c1 c2 c3 c4
  go_upto_region 3 with (go_at_call 52; refine (meet_any H wb mb T r0 most none 0 [] 0 M.begin w1 HW1.out HM.out.b (by decide)).mono ?_; rintro e w2 hmo; obtain ⟨kk, okb, rfl, hm2⟩ := hmo.mid; have HMT := hid hmo; clear hmo hm2)
  obtain ⟨so, sc, hwk2, hm2⟩ : ∃ so sc, WK H w2 wb mb T r0 most so sc [M.begin] 0 ∧ Mv (fun b => H ≤ b) W w2 := by
    rcases HMT.out with ⟨k, hp, _⟩ | ⟨_, hl, _⟩ | ⟨_, _, _, so, sc, hwk, hm, _⟩
    · simp [plc] at hp
    · have := HMO.out.1; simp at hl; omega
    · exact ⟨so, sc, hwk, (HN1.out.mono (fun _ h => h.elim)).trans hm (fun b hb => .inl (HW1.out.ge hb).1)⟩
  have HWK2 := hid hwk2
  have HM2 := hid hm2
  clear hwk2 hm2 HMT
  have HEP0 : Hid (EP M most.toNat ⟨[], [M.begin], 0⟩) := ⟨rfl, Nat.zero_le _, by have := HMO.out.1; show 1 ≤ _; omega, Nat.zero_le _, fun s hs => by rw [List.mem_singleton.1 hs]; exact HM.out.b⟩
  have HWA0 : Hid (WA H W w2 [] none 0 []) := ⟨⟨rfl, .inl ⟨rfl, rfl⟩⟩, rfl, fun _ h => absurd h (by simp)⟩
  go_wp2
  go_loopw [4, 5] (fun nv iv wr => ∃ (x : Expl) (no : Option Addr) (nc : Nat) (nxs : List NX) (so : Option Addr) (sc : Nat), x.nodes.length ≤ 20000 ∧ iv = .int .i64 (x.nodes.length : Int) ∧ nv = .slice no x.nodes.length nc ∧ Hid (WK H wr wb mb T r0 most so sc x.states x.cnt) ∧ Hid (WA H W wr x.nodes no nc nxs) ∧ Hid (Mv (fun b => H ≤ b) W wr) ∧ Hid (EP M most.toNat x)) (fun _ iv _ => 20001 - (intOf iv).toNat)
  case atStart => exact ⟨⟨[], [M.begin], 0⟩, none, 0, [], so, sc, Nat.zero_le _, rfl, rfl, HWK2.out, HWA0.out, HM2.out, HEP0.out⟩
  case round =>
    obtain ⟨x, no, nc, nxs, so, sc, hxn, rfl, rfl, HWK, HWA, HMV, HEP⟩ := hrel
    obtain ⟨d0, d1, d2, d3, d4⟩ := cells5 HWK.out.blk
    have hsl := HEP.out.most
    have hsl2 : x.states.length ≤ 20000 := by have := HMO.out; omega
    rcases Nat.lt_or_ge x.nodes.length x.states.length with hlt | hge
    · have hlt' : (x.nodes.length : Int) < (x.states.length : Int) := by omega
      obtain ⟨st, hst⟩ : ∃ st, x.states[x.nodes.length]? = some st := ⟨_, List.getElem?_eq_getElem hlt⟩
      have HST := hid hst
      have HSH : Hid (Short st) := HEP.out.short st (List.mem_of_getElem? hst)
      obtain ⟨g, sc', hv, hc⟩ : ∃ g sc', so = some ⟨g, 0, none⟩ ∧ wr.cell? ⟨g, x.nodes.length, none⟩ = some (.string st) := by
        rcases HWK.out.st.2 with ⟨_, hn⟩ | ⟨g, cap, cur, hv, _⟩
        · omega
        · simp only [Value.slice.injEq] at hv
          have hv1 := hv.1
          refine ⟨g, 0, hv1, ?_⟩
          have := HWK.out.st.cells (g := g) (by rw [hv1]; rfl) x.nodes.length (.string st) (by rw [List.getElem?_map, hst]; rfl)
          rwa [add_block] at this
      subst hv
      have HNL : Hid (x.nodes.length < x.states.length) := hlt
      have HNO := hid (node_any H wb mb T r0 most (some ⟨g, 0, none⟩) sc x.states x.cnt F M st wr HWK.out (HSL.out wr HMV.out) HF.out HM.out HSH.out (by have := HMO.out; omega) HMO.out.2 HEP.out.cnt)
      clear hst hlt hsl d0 d1 d2 d4
      go_upto_region 7 with (go_at_call 53; refine Calls.mono HNO.out ?_; rintro e w3 ⟨hm3, hcase⟩; have HM3 := hid hm3; rcases hcase with ⟨hno, rfl⟩ | ⟨u, va, vac, axs, so2, sc2, hyes, rfl, hwk3, hae, har, hws⟩)
      · have HFL := hid (HEP.out.fails HST.out hno)
        clear HNO hm3 hno hc d3
        go_wp2
        go_ret2
        exact ⟨(HMV.out.trans HM3.out (fun b hb => .inl (HWK.out.ge hb).1)).trans (Mv.alloc (fun _ => False) _ _) (fun _ h => h.elim), .inl ⟨HFL.out, rfl⟩⟩
      · have HEP2 := hid (HEP.out.goes HM.out HST.out hyes)
        have HWK3 := hid hwk3
        have hal : axs.length = u.arcs.length := by rw [← hae, List.length_map]
        have HWA3 : Hid (WA H W w3 x.nodes no nc nxs) := HWA.out.mv HM3.out (fun k hk hs => by
          obtain ⟨_, _, cs, hc'⟩ := row_blk HWA.out.row hk
          exact HWK.out.apart hc' (by decide) (by decide) hs) (fun b hb => Zt.apart hb HWK.out)
        have HNX : Hid (NXZ w3 (Zt wr.heap.size w3) ⟨nodeOf (M.look st) u.arcs, axs, va, vac⟩) := ⟨hae, har⟩
        have HBH : Hid (H ≤ wr.heap.size) := Nat.le_trans HHW.out HMV.out.size
        have HMW : Hid (Mv (fun b => H ≤ b) W w3) := HMV.out.trans HM3.out (fun b hb => .inl (HWK.out.ge hb).1)
        have HCE : Hid ((⟨nodeOf (M.look st) u.arcs, axs, va, vac⟩ : NX).cells = [.slice va u.arcs.length vac, .int .u64 (M.look st).props, .bool (M.look st).en, .bool (M.look st).pr, .bool (M.look st).ac]) := by show _ = _; simp [NX.cells, nodeOf, hal]
        clear HNO hm3 hyes hwk3 hae har hws hc d3 hal
        obtain ⟨sg, hsg⟩ : ∃ sg, M.look st = sg := ⟨_, rfl⟩
        rw [hsg] at HEP2 HNX HCE ⊢
        clear hsg
        have HN4 : Hid (Nu w3 (w3.alloc (.cells #[.slice va u.arcs.length vac, .int .u64 sg.props, .bool sg.en, .bool sg.pr, .bool sg.ac] 125))) := Mv.alloc _ _ _
        have HB4 : Hid ((w3.alloc (.cells #[.slice va u.arcs.length vac, .int .u64 sg.props, .bool sg.en, .bool sg.pr, .bool sg.ac] 125)).heap[w3.heap.size]? = some (.cells #[.slice va u.arcs.length vac, .int .u64 sg.props, .bool sg.en, .bool sg.pr, .bool sg.ac] 125 (0, 0))) := heap_alloc_new w3 _
        generalize w3.alloc (.cells #[.slice va u.arcs.length vac, .int .u64 sg.props, .bool sg.en, .bool sg.pr, .bool sg.ac] 125) = w4 at *
        obtain ⟨p0, p1, p2, p3, p4⟩ := cells5 HB4.out
        go_upto_region 9 with fail
        obtain ⟨i0, hi0, hz0, hz1, hz2⟩ := info_parts c_infoNode
        have HN5 : Hid (Nu w4 (w4.alloc (.cells #[.slice va u.arcs.length vac, .int .u64 sg.props, .bool sg.en, .bool sg.pr, .bool sg.ac] 125))) := Mv.alloc _ _ _
        have HR5 := hid (row_mv (mv0 HN4.out HN5.out) HWA3.out.row (fun _ _ => id))
        have HNB : Hid (∀ q v, ([.slice va u.arcs.length vac, .int .u64 sg.props, .bool sg.en, .bool sg.pr, .bool sg.ac] : List Value)[q]? = some v → (w4.alloc (.cells #[.slice va u.arcs.length vac, .int .u64 sg.props, .bool sg.en, .bool sg.pr, .bool sg.ac] 125)).cell? ((⟨w4.heap.size, 0, none⟩ : Addr).add q) = some v) := fun q v hj => by
          rw [add_block, cell_blk (heap_alloc_new w4 _)]; simpa using hj
        have hnl : x.nodes.length < 20000 := by have := HNL.out; omega
        have HBS : Hid (H ≤ w4.heap.size) := Nat.le_trans HHW.out (Nat.le_trans HMW.out.size HN4.out.size)
        clear hlt'
        go_wp2_with (at_builtin; refine wpList_append_lies _ rfl _ _ 44 rfl H 125 i0 (.agg #[.slice none 0 0, .int .u64 0, .bool false, .bool false, .bool false]) 5 40 Tryd.underlying44 hi0 hz0 hz1 hz2 rfl (by decide) _ x.nodes.length (nxflat nxs) rfl HR5.out ⟨w4.heap.size, 0, none⟩ 1 1 [.slice va u.arcs.length vac, .int .u64 sg.props, .bool sg.en, .bool sg.pr, .bool sg.ac] rfl rfl HNB.out (by simp [Value.oneCell']) (by decide) (by unfold maxLen; omega) (by omega) (by have := HBS.out; simp; omega) _ rfl ?_)
        intro g2 nc2 w6 ho6 hg6 hgg _
        rw [← HCE.out] at ho6
        obtain ⟨hwa6, hm6⟩ := HWA3.out.step (mv0 HN4.out HN5.out) hg6 ho6 HNX.out HBH.out
        have HWA6 := hid hwa6
        have HM6 : Hid (Mv (fun b => H ≤ b) W w6) := HMW.out.trans hm6 (fun b hb => .inl (row_blk HWA3.out.row hb).1)
        have HWK6 : Hid (WK H w6 wb mb T r0 most so2 sc2 u.states u.cnt) := HWK3.out.mv hm6 (fun b hb hx => by
          obtain ⟨_, _, cs, hc'⟩ := row_blk HWA3.out.row hx
          exact HWK3.out.apart hc' (by decide) (by decide) hb)
        have hlen : (x.nodes ++ [nodeOf sg u.arcs]).length = x.nodes.length + 1 := by simp
        clear hwa6 hm6 ho6 hg6 hgg p0 p1 p2 p3 p4
        go_wp2
        go_roundw
        case rel => exact ⟨⟨x.nodes ++ [nodeOf sg u.arcs], u.states, u.cnt⟩, some ⟨g2, 0, none⟩, nc2, _, so2, sc2, by rw [hlen]; omega, by rw [hlen]; go_num, by rw [hlen], HWK6.out, HWA6.out, HM6.out, HEP2.out⟩
        case measure => simp [intOf]; omega
    · have he : x.nodes.length = x.states.length := by have := HEP.out.le; omega
      have he' : ¬ (x.nodes.length : Int) < (x.states.length : Int) := by omega
      have HEN := hid (HEP.out.ends he)
      clear he hge d0 d1 d2 d4 hsl
      go_wp2
      go_ret2
      exact ⟨HMV.out, .inr ⟨x.nodes, x.states, x.cnt, no, nc, nxs, so, sc, HEN.out, rfl, HWK.out, HWA.out, hxn, hsl2⟩⟩

end Go.Proofs.YtiinmaedmkgfoaaDoor
/-
  A system explored: the program's Explore; all contracts together.
-/
set_option linter.unusedVariables false
set_option linter.unusedSimpArgs false
namespace Go.Proofs.YtiinmaedmkgfoaaDoor
open Go.RowKit

set_option maxHeartbeats 2000000 in
theorem explN_any (w : World) (most : Int) : Calls Tryd.prog 14 #[.nilIface, .int .i64 most] w fun e w' => Nu w w' ∧ e = .returned (.tuple #[.agg #[.slice none 0 0], .slice none 0 0, .int .i64 1]) := by
  go_enter Tryd.func14, Tryd.ntmps14
  go_upto_region 1 with fail
  have HN1 : Hid (Nu w (w.alloc (.cells #[.slice none 0 0] 46))) := Mv.alloc _ _ _
  have HA1 : Hid ((w.alloc (.cells #[.slice none 0 0] 46)).heap[w.heap.size]? = some (.cells #[.slice none 0 0] 46 (0, 0))) := heap_alloc_new w _
  generalize w.alloc (.cells #[.slice none 0 0] 46) = w1 at *
  have q0 := cell_blk HA1.out 0
  have z0 := free_blk HA1.out 0
  simp only [List.size_toArray, List.length_cons, List.length_nil, Nat.reduceAdd, Nat.lt_add_one, Nat.reduceLT, getElem?_pos, List.getElem_toArray, List.getElem_cons_zero] at q0
  have hc := World.cell?_setCell_same' w1 ⟨w.heap.size, 0, none⟩ (.slice none 0 0) (by rw [q0]; rfl)
  go_wp2
  refine bodyPost_ret (v := .tuple #[.agg #[.slice none 0 0], .slice none 0 0, .int .i64 1]) (by simp [results, Tryd.results14, go_sem, hc]) rfl ⟨HN1.out.trans (Mv.setCell w1 ⟨w.heap.size, 0, none⟩ _) (fun x hx => .inr (by simp only at hx; omega)), rfl⟩

theorem WA.out {H : Nat} {w W' : World} {ns : List Node} {no : Option Addr} {nc : Nat} {nxs : List NX} (h : WA H w W' ns no nc nxs) (hl : ns.length ≤ 20000) {A : World} {S : Nat → Prop} (hm : Mv S W' A) (hS : ∀ b, S b → b < H) : NodesAt A A.heap.size no ns := by
  have h' : WA H w A ns no nc nxs := h.mv hm (fun k hk hs => by have := (row_blk h.row hk).1; have := hS k hs; omega) (fun b hb hs => by have := hb.1; have := hS b hs; omega)
  have hlx : nxs.length = ns.length := by rw [← h'.eq, List.length_map]
  have hr := h'.row
  rw [← hlx] at hr
  have := nodes_of_row (Z := Zt H A) hr (by omega) h'.nz (fun b hb => by obtain ⟨_, cs, t, hc, _⟩ := hb; exact lt_of_block hc)
  rwa [h'.eq] at this

set_option maxHeartbeats 4000000 in
set_option maxRecDepth 40000 in
theorem Explore_any (w : World) (F : Nat → Prop) (T : TypeId) (r0 : Value) (M : Sem) (most : Int) (hs : SysAt F w T r0 M) (hM : M.Fine) (hI : I64 most) : Calls Tryd.prog 14 #[.iface T r0, .int .i64 most] w (ExplOut w M most) := by
  have HS := hid hs
  have HM := hid hM
  clear hs hM hI
  go_enter Tryd.func14, Tryd.ntmps14
  go_upto_region 1 with fail
  have HN1 : Hid (Nu w (w.alloc (.cells #[.slice none 0 0] 46))) := Mv.alloc _ _ _
  have HA1 : Hid ((w.alloc (.cells #[.slice none 0 0] 46)).heap[w.heap.size]? = some (.cells #[.slice none 0 0] 46 (0, 0))) := heap_alloc_new w _
  have HZ1 : Hid ((w.alloc (.cells #[.slice none 0 0] 46)).heap.size = w.heap.size + 1) := World.size_alloc _ _
  generalize w.alloc (.cells #[.slice none 0 0] 46) = w1 at *
  have HARG : Hid (∀ A : World, Mv (fun b => w.heap.size + 1 ≤ b) w1 A → A.heap[w.heap.size]? = some (.cells #[.slice none 0 0] 46 (0, 0))) := fun A hA => hA.heap HA1.out (by omega)
  rcases Int.lt_or_le most 1 with h1 | h1
  · have q0 := cell_blk HA1.out 0
    have z0 := free_blk HA1.out 0
    simp only [List.size_toArray, List.length_cons, List.length_nil, Nat.reduceAdd, Nat.lt_add_one, Nat.reduceLT, getElem?_pos, List.getElem_toArray, List.getElem_cons_zero] at q0
    have hc := World.cell?_setCell_same' w1 ⟨w.heap.size, 0, none⟩ (.slice none 0 0) (by rw [q0]; rfl)
    have HLT := hid h1
    go_wp2
    refine bodyPost_ret (v := .tuple #[.agg #[.slice none 0 0], .slice none 0 0, .int .i64 1]) (by simp [results, Tryd.results14, go_sem, hc]) rfl ⟨HN1.out.trans (Mv.setCell w1 ⟨w.heap.size, 0, none⟩ _) (fun x hx => .inr (by simp only at hx; omega)), none, 0, none, 0, [], [], 1, rfl, NodesAt.nil _ _ _, StrsAt.nil _ _ _, .inl ⟨.inl HLT.out, rfl, rfl, rfl⟩⟩
  rcases Int.lt_or_le 20000 most with h2 | h2
  · have q0 := cell_blk HA1.out 0
    have z0 := free_blk HA1.out 0
    simp only [List.size_toArray, List.length_cons, List.length_nil, Nat.reduceAdd, Nat.lt_add_one, Nat.reduceLT, getElem?_pos, List.getElem_toArray, List.getElem_cons_zero] at q0
    have hc := World.cell?_setCell_same' w1 ⟨w.heap.size, 0, none⟩ (.slice none 0 0) (by rw [q0]; rfl)
    have HLT := hid h2
    go_wp2
    refine bodyPost_ret (v := .tuple #[.agg #[.slice none 0 0], .slice none 0 0, .int .i64 1]) (by simp [results, Tryd.results14, go_sem, hc]) rfl ⟨HN1.out.trans (Mv.setCell w1 ⟨w.heap.size, 0, none⟩ _) (fun x hx => .inr (by simp only at hx; omega)), none, 0, none, 0, [], [], 1, rfl, NodesAt.nil _ _ _, StrsAt.nil _ _ _, .inl ⟨.inr HLT.out, rfl, rfl, rfl⟩⟩
  have HMO := hid (And.intro h1 h2)
  have h1' : ¬ most < 1 := by omega
  have h2' : ¬ 20000 < most := by omega
  clear h1 h2
  have hmm := @run_makeMap Tryd.prog
  go_upto_region 4 with fail
  clear h1' h2' hmm
  obtain ⟨wa, hwa⟩ : ∃ wa, wa = w1.alloc (.map #[] 0) := ⟨_, rfl⟩
  obtain ⟨w2, hw2⟩ : ∃ w2, w2 = wa.alloc (.cells #[.iface T r0, .int .i64 most, .map (some w1.heap.size), .slice none 0 0, .int .i64 0] 93) := ⟨_, rfl⟩
  rw [← hwa, ← hw2]
  have hza : wa.heap.size = w1.heap.size + 1 := by rw [hwa]; exact World.size_alloc _ _
  have hna : Nu w1 wa := by rw [hwa]; exact Mv.alloc _ _ _
  have hn2 : Nu wa w2 := by rw [hw2]; exact Mv.alloc _ _ _
  have hmn : MapN wa w1.heap.size [] := by rw [hwa]; exact MapN.made w1
  have HWK : Hid (WK w1.heap.size w2 (w1.heap.size + 1) w1.heap.size T r0 most none 0 [] 0) := by
    refine ⟨?_, hmn.mv hn2 id, ⟨rfl, .inl ⟨rfl, rfl⟩⟩, Nat.le_succ _, Nat.le_refl _⟩
    have := heap_alloc_new wa (.cells #[.iface T r0, .int .i64 most, .map (some w1.heap.size), .slice none 0 0, .int .i64 0] 93)
    rw [← hw2, hza] at this
    exact this
  have HN2 := hid (mv0 hna hn2)
  have HS2 := hid (HS.out.nu (mv0 HN1.out HN2.out))
  clear hwa hw2 hza hna hn2 hmn
  go_upto_region 5 with (go_at_call 34; refine (walkall_any w1.heap.size (w1.heap.size + 1) w1.heap.size T r0 most F M w2 HWK.out HS2.out (fun b hb => Nat.lt_of_lt_of_le (HS.out.lt b hb) HN1.out.size) HM.out HMO.out.1 HMO.out.2).mono ?_; rintro e w3 ⟨hm3, hcase⟩; have HM3 := hid hm3; rcases hcase with ⟨hno, rfl⟩ | ⟨ns, ss, cnt, no, nc, nxs, so, sc, hyes, rfl, hwk3, hwa3, hnl, hsl⟩)
  · have HA3 := hid (HM3.out.heap (HN2.out.heap HA1.out id) (by have := HZ1.out; omega))
    have HNW : Hid (Nu w w3) := (mv0 HN1.out HN2.out).trans HM3.out (fun b hb => .inr (by have := HZ1.out; omega))
    have HNO := hid hno
    have q0 := cell_blk HA3.out 0
    have z0 := free_blk HA3.out 0
    simp only [List.size_toArray, List.length_cons, List.length_nil, Nat.reduceAdd, Nat.lt_add_one, Nat.reduceLT, getElem?_pos, List.getElem_toArray, List.getElem_cons_zero] at q0
    have hc := World.cell?_setCell_same' w3 ⟨w.heap.size, 0, none⟩ (.slice none 0 0) (by rw [q0]; rfl)
    clear hm3 hno
    go_wp2
    refine bodyPost_ret (v := .tuple #[.agg #[.slice none 0 0], .slice none 0 0, .int .i64 131]) (by simp [results, Tryd.results14, go_sem, hc]) rfl ⟨HNW.out.trans (Mv.setCell w3 ⟨w.heap.size, 0, none⟩ _) (fun x hx => .inr (by simp only at hx; omega)), none, 0, none, 0, [], [], 131, rfl, NodesAt.nil _ _ _, StrsAt.nil _ _ _, .inr (.inl ⟨HMO.out.1, HMO.out.2, HNO.out, rfl, rfl, rfl⟩)⟩
  · have HA3 := hid (HM3.out.heap (HN2.out.heap HA1.out id) (by have := HZ1.out; omega))
    have HNW : Hid (Nu w w3) := (mv0 HN1.out HN2.out).trans HM3.out (fun b hb => .inr (by have := HZ1.out; omega))
    have HYE := hid hyes
    have HWK3 := hid hwk3
    have HWA3 := hid hwa3
    have HLN := hid (And.intro hnl hsl)
    clear hm3 hyes hwk3 hwa3 hnl hsl
    have q0 := cell_blk HA3.out 0
    have z0 := free_blk HA3.out 0
    obtain ⟨_, _, _, d3, _⟩ := cells5 HWK3.out.blk
    simp only [List.size_toArray, List.length_cons, List.length_nil, Nat.reduceAdd, Nat.lt_add_one, Nat.reduceLT, getElem?_pos, List.getElem_toArray, List.getElem_cons_zero] at q0
    go_upto_region 7 with fail
    go_region
    have hmS := Mv.setCell w3.drew ⟨w.heap.size, 0, none⟩ (.slice no ns.length nc)
    have hm' : Mv (· = w.heap.size) w3 (w3.drew.setCell ⟨w.heap.size, 0, none⟩ (.slice no ns.length nc)) := ((Mv.drew (fun _ => False) w3).mono (fun _ h => h.elim)).trans hmS (fun b hb => .inl hb)
    have hS : ∀ b, b = w.heap.size → b < w1.heap.size := fun b hb => by have := HZ1.out; omega
    have HNA := hid (HWA3.out.out HLN.out.1 hm' hS)
    have hst := row_mv hm' HWK3.out.st (fun k hk e => by have := (row_blk HWK3.out.st hk).1; have := HZ1.out; omega)
    have HSA : Hid (StrsAt (w3.drew.setCell ⟨w.heap.size, 0, none⟩ (.slice no ns.length nc)) (w3.drew.setCell ⟨w.heap.size, 0, none⟩ (.slice no ns.length nc)).heap.size so ss) := by
      refine ⟨by have := HLN.out.2; omega, ?_⟩
      rcases hst.2 with ⟨_, hn⟩ | ⟨g, cap, cur, hv, _, hg, _⟩
      · exact .inl hn
      · have hvo : so = some ⟨g, 0, none⟩ := by simp only [Value.slice.injEq] at hv; exact hv.1
        subst hvo
        refine .inr ⟨g, 0, rfl, lt_of_block hg, fun i hi => ?_⟩
        have := hst.cells (g := g) rfl i (.string ss[i]) (by rw [List.getElem?_map, List.getElem?_eq_getElem hi]; rfl)
        rw [add_block] at this
        rwa [Nat.zero_add]
    have HNF : Hid (Nu w (w3.drew.setCell ⟨w.heap.size, 0, none⟩ (.slice no ns.length nc))) := HNW.out.trans hm' (fun b hb => .inr (by omega))
    have hc := World.cell?_setCell_same' w3.drew ⟨w.heap.size, 0, none⟩ (.slice no ns.length nc) (by show (w3.cell? ⟨w.heap.size, 0, none⟩).isSome = true; rw [q0]; rfl)
    have hc' := World.cell?_setCell_same' w3 ⟨w.heap.size, 0, none⟩ (.slice no ns.length nc) (by rw [q0]; rfl)
    clear hmS hm' hS hst q0 z0 d3
    go_wp2
    refine bodyPost_ret (v := .tuple #[.agg #[.slice no ns.length nc], .slice so ss.length sc, .int .i64 0]) (by simp [results, Tryd.results14, go_sem, hc']) rfl ⟨HNF.out, no, nc, so, sc, ns, ss, 0, rfl, HNA.out, HSA.out, .inr (.inr ⟨HMO.out.1, HMO.out.2, HYE.out, rfl⟩)⟩

/-- THE CONTRACTS of the program. -/
theorem nCons : NCons where
  check := fun w ao cap ns h => Check_any w ao cap ns h
  of := fun w ao cap ns h => Of_any w ao cap ns h
  expl := fun w F T r0 M most hs hM hI => Explore_any w F T r0 M most hs hM hI
  checkT0 := fun w => checkT0_any w
  explN := fun w most => (explN_any w most).mono (fun e w' ⟨h1, h2⟩ => ⟨h1, _, _, h2⟩)

end Go.Proofs.YtiinmaedmkgfoaaDoor
