/-
  PrKn, PrOneW.
-/
import Derived.Test.YtmlpndcelfdlhaaM13
import Derived.Test.YtmlpndcelfdlhaaM26
import Derived.Test.YtmlpndcelfdlhaaM31
import Derived.Test.YtmlpndcelfdlhaaM33
import Derived.Test.YtmlpndcelfdlhaaM34
/-
  The example of the law: known is true at every world.
-/
set_option linter.unusedVariables false
set_option linter.unusedSimpArgs false
namespace Go.Proofs.Ytmlpndcelfdlhaa
open Go.RowKit

theorem kn_at (w : World) (p : Int) : NodesAt (w.alloc (.cells #[.slice none 0 0, .int .u64 p, .bool false, .bool false, .bool false] 48)) (w.alloc (.cells #[.slice none 0 0, .int .u64 p, .bool false, .bool false, .bool false] 48)).heap.size (some ⟨w.heap.size, 0, none⟩) (kn p) := by
  have h := heap_alloc_new w (.cells #[.slice none 0 0, .int .u64 p, .bool false, .bool false, .bool false] 48)
  refine ⟨by simp [kn], .inr ⟨w.heap.size, 0, rfl, lt_of_block h, fun i hi => ?_⟩⟩
  have : i = 0 := by simp [kn] at hi; omega
  subst this
  exact ⟨⟨_, cell_blk h 0, none, 0, rfl, ⟨by simp [kn], .inl rfl⟩⟩, cell_blk h 1, cell_blk h 2, cell_blk h 3, cell_blk h 4⟩

theorem kn_of (w : World) (p : Int) : Calls Try.prog 4 #[.agg #[.slice (some ⟨w.heap.size, 0, none⟩) 1 1]] (w.alloc (.cells #[.slice none 0 0, .int .u64 p, .bool false, .bool false, .bool false] 48)) fun e w' =>
    Nu w w' ∧ ∃ F r0, e = .returned (.tuple #[.iface 54 r0, .int .i64 0]) ∧ SysAt F w' 54 r0 (graphSem (kn p)) := by
  refine (Of_anyT _ (some ⟨w.heap.size, 0, none⟩) 1 (kn p) (kn_at w p)).mono ?_
  rintro e w' ⟨hn, ⟨hm, _⟩ | ⟨_, F, r0, rfl, hs, _⟩⟩
  · rw [kn_may] at hm; cases hm
  · exact ⟨mv0 (Mv.alloc _ _ _) hn, F, r0, rfl, hs⟩

theorem pair_of (w : World) (so : Nat) (A : List ASt) (sc : Nat) (F0 : Nat → Prop) (hF0 : ∀ b, F0 b → b < w.heap.size) (h : StsAt w F0 so A) (hf : FineA A) (F : Nat → Prop) (r0 : Value) (ns : List Node) (hm : mayN ns = true) (hs : SysAt F w 54 r0 (graphSem ns)) :
    Calls Try.prog 6 #[.iface 54 r0, .agg #[.slice (some ⟨so, 0, none⟩) A.length sc]] w fun e w' =>
    Nu w w' ∧ ∃ F' pb, e = .returned (.tuple #[.iface 60 (.pointer (some ⟨pb, 0, none⟩)), .int .i64 0]) ∧ SysAt F' w' 60 (.pointer (some ⟨pb, 0, none⟩)) (prodSem (graphSem ns) A) := by
  refine (productOf_any w F0 hF0 r0 so sc A h hf).mono ?_
  rintro e w' ⟨hn, F', pb, g, cap, no, nc, rfl, hp, hF'⟩
  exact ⟨hn, _, pb, rfl, hp.sys (fun b hb => (hF' b hb).2) (hs.nu hn) (graph_fine1 hm)⟩

theorem fine_pair {ns : List Node} {A : List ASt} (hm : mayN ns = true) (hf : FineA A) : (prodSem (graphSem ns) A).FineR := by
  obtain ⟨h1, h2⟩ := graph_short hm
  exact pair_fine hf.len.1 hf.len.2 (fun a ha m hm => (hf.mvs a ha m hm).2) h1 h2

theorem kn_expl (w : World) (F : Nat → Prop) (r0 : Value) (p : Int) (g : List Node) (ss : List ByteArray) (hs : SysAt F w 60 r0 (prodSem (graphSem (kn p)) often2)) (he : explored (prodSem (graphSem (kn p)) often2) 5 = some (g, ss)) :
    Calls Try.prog 7 #[.iface 60 r0, .int .i64 5] w fun e w' => Nu w w' ∧ ∃ na nc sa sc, e = .returned (.tuple #[.agg #[.slice na g.length nc], .slice sa ss.length sc, .bool true]) ∧ NodesAt w' w'.heap.size na g := by
  refine (explore_anyR w F _ r0 _ 5 hs (fine_pair (kn_may p) fine_often) (by decide) (by decide)).mono ?_
  rintro e w' ⟨hn, ⟨h, _⟩ | ⟨ns, s2, na, nc, sa, sc, h, rfl, hna, _⟩⟩
  · rw [show (5 : Int).toNat = 5 from rfl, he] at h; cases h
  · rw [show (5 : Int).toNat = 5 from rfl, he] at h
    cases h
    exact ⟨hn, na, nc, sa, sc, rfl, hna⟩

set_option maxHeartbeats 8000000 in
set_option maxRecDepth 40000 in
theorem known16_any (w : World) : Calls Try.prog 5 #[] w fun e w' => e = .returned (.bool true) ∧ Nu w w' := by
  go_enter Try.func5, Try.ntmps5
  go_wp2_with fail
  refine (kn_of w 1).mono ?_
  rintro e w1 ⟨hn1, F1, r1, rfl, hs1⟩
  have HN1 := hid hn1
  have HS1 := hid hs1
  clear hn1 hs1
  go_wp2_with fail
  refine (kn_of w1 0).mono ?_
  rintro e w2 ⟨hn2, F2, r2, rfl, hs2⟩
  have HN2 := hid (mv0 HN1.out hn2)
  have HS1b := hid (HS1.out.nu hn2)
  have HS2 := hid hs2
  clear hn2 hs2 HS1 HN1
  go_wp2_with fail
  refine (often_any w2).mono ?_
  rintro e w3 ⟨hn3, so3, rfl, hst3⟩
  have HN3 := hid (mv0 HN2.out hn3)
  have HS1c := hid (HS1b.out.nu hn3)
  have HS2c := hid (HS2.out.nu hn3)
  have HST := hid hst3
  clear hn3 hst3 HS1b HS2 HN2
  go_wp2_with fail
  refine (pair_of w3 so3 often2 2 (newF w2 w3) (fun b hb => hb.2) HST.out fine_often F1 r1 (kn 1) (kn_may 1) HS1c.out).mono ?_
  rintro e w4 ⟨hn4, F4, pb4, rfl, hs4⟩
  have HN4 := hid (mv0 HN3.out hn4)
  have HS2d := hid (HS2c.out.nu hn4)
  have HP1 := hid hs4
  clear hn4 hs4 HS1c HS2c HN3 HST
  go_wp2_with fail
  refine (often_any w4).mono ?_
  rintro e w5 ⟨hn5, so5, rfl, hst5⟩
  have HN5 := hid (mv0 HN4.out hn5)
  have HP1b := hid (HP1.out.nu hn5)
  have HS2e := hid (HS2d.out.nu hn5)
  have HST := hid hst5
  clear hn5 hst5 HS2d HP1 HN4
  go_wp2_with fail
  refine (pair_of w5 so5 often2 2 (newF w4 w5) (fun b hb => hb.2) HST.out fine_often F2 r2 (kn 0) (kn_may 0) HS2e.out).mono ?_
  rintro e w6 ⟨hn6, F6, pb6, rfl, hs6⟩
  have HN6 := hid (mv0 HN5.out hn6)
  have HP1c := hid (HP1b.out.nu hn6)
  have HP2 := hid hs6
  clear hn6 hs6 HS2e HP1b HN5 HST
  go_wp2_with fail
  refine (kn_expl w6 F4 _ 1 kg1 _ HP1c.out kn1_explored).mono ?_
  rintro e w7 ⟨hn7, na7, nc7, sa7, sc7, rfl, hg7⟩
  have HN7 := hid (mv0 HN6.out hn7)
  have HP1d := hid (HP1c.out.nu hn7)
  have HP2b := hid (HP2.out.nu hn7)
  have HG1 := hid hg7
  clear hn7 hg7 HN6 HP1c HP2
  go_upto_region 10 with fail
  have HA8 : Hid (Nu w7 (w7.alloc (.cells #[.slice na7 kg1.length nc7] 24))) := Mv.alloc _ _ _
  have HB8 : Hid ((w7.alloc (.cells #[.slice na7 kg1.length nc7] 24)).heap[w7.heap.size]? = some (.cells #[.slice na7 kg1.length nc7] 24 (0, 0))) := heap_alloc_new w7 _
  generalize hb8 : w7.heap.size = b8 at *
  generalize w7.alloc (.cells #[.slice na7 kg1.length nc7] 24) = w8 at *
  have HN8 := hid (mv0 HN7.out HA8.out)
  have HP1e := hid (HP1d.out.nu HA8.out)
  have HP2c := hid (HP2b.out.nu HA8.out)
  have HG1b : Hid (NodesAt w8 w8.heap.size na7 kg1) := HG1.out.below (by rw [← hb8] at *; exact HA8.out.nu_below) (by rw [← hb8]; exact HA8.out.size)
  clear HA8 HN7 HP1d HP2b HG1 hb8
  go_wp2_with fail
  refine (kn_expl w8 F6 _ 0 kg0 _ HP2c.out kn0_explored).mono ?_
  rintro e w9 ⟨hn9, na9, nc9, sa9, sc9, rfl, hg9⟩
  have HN9 := hid (mv0 HN8.out hn9)
  have HP1f := hid (HP1e.out.nu hn9)
  have HG1c := hid (HG1b.out.below hn9.nu_below hn9.size)
  have HB9 : Hid (w9.heap[b8]? = some (.cells #[.slice na7 kg1.length nc7] 24 (0, 0))) := hn9.heap HB8.out id
  have HG0 := hid hg9
  clear hn9 hg9 HN8 HP1e HP2c HG1b HB8
  go_upto_region 11 with fail
  have HA10 : Hid (Nu w9 (w9.alloc (.cells #[.slice na9 kg0.length nc9] 24))) := Mv.alloc _ _ _
  have HB10 : Hid ((w9.alloc (.cells #[.slice na9 kg0.length nc9] 24)).heap[w9.heap.size]? = some (.cells #[.slice na9 kg0.length nc9] 24 (0, 0))) := heap_alloc_new w9 _
  have HG0b : Hid (NodesAt (w9.alloc (.cells #[.slice na9 kg0.length nc9] 24)) (w9.alloc (.cells #[.slice na9 kg0.length nc9] 24)).heap.size na9 kg0) := HG0.out.below HA10.out.nu_below HA10.out.size
  have HG1d : Hid (NodesAt (w9.alloc (.cells #[.slice na9 kg0.length nc9] 24)) (w9.alloc (.cells #[.slice na9 kg0.length nc9] 24)).heap.size na7 kg1) := HG1c.out.below HA10.out.nu_below HA10.out.size
  generalize w9.heap.size = b10 at *
  generalize w9.alloc (.cells #[.slice na9 kg0.length nc9] 24) = w10 at *
  have HN10 := hid (mv0 HN9.out HA10.out)
  have HP1g := hid (HP1f.out.nu HA10.out)
  have HB11 : Hid (w10.heap[b8]? = some (.cells #[.slice na7 kg1.length nc7] 24 (0, 0))) := HA10.out.heap HB9.out id
  clear HA10 HN9 HP1f HG0 HG1c HB9
  obtain ⟨fB, rB, ⟨hmB, heB', hnB⟩, hcB⟩ := HP1g.out.doNu (Mv.refl _ w10) |>.bg
  have heB : ∀ args w, (callFunc fB args).run Try.prog w = .ok (.enter fB args) w := heB'
  have HCB := hid hcB
  clear hcB heB'
  go_wp2_with fail
  refine Calls.mono HCB.out ?_
  rintro e w11 ⟨rfl, hn11⟩
  rw [begin_kn]
  have HN11 := hid (mv0 HN10.out hn11)
  have HG1e := hid (HG1d.out.below hn11.nu_below hn11.size)
  have HG0c := hid (HG0b.out.below hn11.nu_below hn11.size)
  have HB12 : Hid (w11.heap[b8]? = some (.cells #[.slice na7 kg1.length nc7] 24 (0, 0))) := hn11.heap HB11.out id
  have HB13 : Hid (w11.heap[b10]? = some (.cells #[.slice na9 kg0.length nc9] 24 (0, 0))) := hn11.heap HB10.out id
  clear hn11 HN10 HG1d HG0b HB11 HB10 HCB hmB heB hnB HP1g
  have c1 := cell_blk HB12.out 0
  have c2 := cell_blk HB13.out 0
  go_wp2_with fail
  refine (cycle_any w11 na7 nc7 kg1 HG1e.out (by decide) toes_kg1 (by decide)).mono ?_
  rintro e w12 ⟨rfl, hn12⟩
  rw [kg1_cycle]
  have HN12 := hid (mv0 HN11.out hn12)
  have HG0d := hid (HG0c.out.below hn12.nu_below hn12.size)
  have HB14 : Hid (w12.heap[b10]? = some (.cells #[.slice na9 kg0.length nc9] 24 (0, 0))) := hn12.heap HB13.out id
  clear c1 c2 hn12 HN11 HG1e HG0c HB12 HB13
  have c2 := cell_blk HB14.out 0
  go_wp2_with fail
  refine (cycle_any w12 na9 nc9 kg0 HG0d.out (by decide) toes_kg0 (by decide)).mono ?_
  rintro e w13 ⟨rfl, hn13⟩
  rw [kg0_cycle]
  have HN13 := hid (mv0 HN12.out hn13)
  have c3 := cell_mv hn13 c2 id
  clear c2 hn13 HN12 HG0d HB14
  have hkl : kg0.length = 2 := rfl
  rw [hkl] at *
  go_wp2_with fail
  go_ret
  trace_state
  exact ⟨rfl, HN13.out⟩

end Go.Proofs.Ytmlpndcelfdlhaa
/-
  The law's own walk: beside the automaton of every word a system is itself.
-/
set_option linter.unusedVariables false
set_option linter.unusedSimpArgs false
namespace Go.Proofs.Ytmlpndcelfdlhaa
open Go.RowKit

theorem one_at (w : World) : StsAt ((w.alloc (.cells #[.int .u64 0, .int .u64 0, .int .i64 0] 36)).alloc (.cells #[.bool true, .slice (some ⟨w.heap.size, 0, none⟩) 1 1] 39)) (fun b => w.heap.size ≤ b ∧ b < w.heap.size + 2) (w.heap.size + 1) one1 := by
  have n1 : Nu (w.alloc (.cells #[.int .u64 0, .int .u64 0, .int .i64 0] 36)) ((w.alloc (.cells #[.int .u64 0, .int .u64 0, .int .i64 0] 36)).alloc (.cells #[.bool true, .slice (some ⟨w.heap.size, 0, none⟩) 1 1] 39)) := Mv.alloc _ _ _
  have h0 := n1.heap (heap_alloc_new w (.cells #[.int .u64 0, .int .u64 0, .int .i64 0] 36)) id
  have h1 := heap_alloc_new (w.alloc (.cells #[.int .u64 0, .int .u64 0, .int .i64 0] 36)) (.cells #[.bool true, .slice (some ⟨w.heap.size, 0, none⟩) 1 1] 39)
  rw [World.size_alloc] at h1
  intro i hi
  have : i = 0 := by simp [one1] at hi; omega
  subst this
  refine ⟨cell_blk h1 0, _, _, cell_blk h1 1, .inr ⟨w.heap.size, rfl, ⟨Nat.le_refl _, by omega⟩, fun j hj => ?_⟩⟩
  have : j = 0 := by simp [one1] at hj; omega
  subst this
  exact ⟨cell_blk h0 0, cell_blk h0 1, cell_blk h0 2⟩

/-- A node's value, its arcs in memory. -/
def NodeV (w : World) (y : Node) (v : Value) : Prop := ∃ ao cap, v = .agg #[.slice ao y.arcs.length cap, .int .u64 y.props, .bool y.en, .bool y.pr, .bool y.ac] ∧ ArcsAt w w.heap.size ao y.arcs
theorem NodeV.nu {w w' : World} {y : Node} {v : Value} (h : NodeV w y v) (hn : Nu w w') : NodeV w' y v := by
  obtain ⟨ao, cap, rfl, ha⟩ := h
  exact ⟨ao, cap, rfl, ha.below hn.nu_below hn.size⟩

/-- What region 20 knows of. -/
def R20 (bx b7 i bb bo n c : Nat) (y : Node) : Nat → World → Value → Prop
  | 0, w, v => NodeV w y v
  | 1, w, v => ∃ g, v = .slice (some ⟨g, 0, none⟩) 1 1 ∧ NodesAt w w.heap.size (some ⟨g, 0, none⟩) [y]
  | 2, w, v => ∃ g, v = .agg #[.slice (some ⟨g, 0, none⟩) 1 1] ∧ NodesAt w w.heap.size (some ⟨g, 0, none⟩) [y]
  | 3, _, v => v = .pointer (some ⟨b7, 0, none⟩)
  | 4, _, v => v = .slice (some ⟨bb, bo, none⟩) n c
  | 5, _, v => v = .int .i64 (i : Int)
  | 6, _, v => v = .pointer (some ⟨bb, bo + i * 5, none⟩)
  | 7, w, v => NodeV w y v
  | 8, w, v => ∃ g, v = .slice (some ⟨g, 0, none⟩) 1 1 ∧ NodesAt w w.heap.size (some ⟨g, 0, none⟩) [y]
  | 9, w, v => ∃ g, v = .agg #[.slice (some ⟨g, 0, none⟩) 1 1] ∧ NodesAt w w.heap.size (some ⟨g, 0, none⟩) [y]
  | 10, _, v => v = .bool true
  | 11, _, v => v = .bool false
  | _ + 12, _, _ => False
theorem R20.nu {bx b7 i bb bo n c : Nat} {y : Node} : ∀ (j : Nat) (w w' : World) (v : Value), Nu w w' → R20 bx b7 i bb bo n c y j w v → R20 bx b7 i bb bo n c y j w' v := by
  intro j w w' v hn h
  match j with
  | 0 | 7 => exact NodeV.nu h hn
  | 1 | 2 | 8 | 9 => obtain ⟨g, h1, h2⟩ := h; exact ⟨g, h1, h2.below hn.nu_below hn.size⟩
  | 3 | 4 | 5 | 6 | 10 | 11 => exact h
  | _ + 12 => exact h

section
variable {o : Oper} {a : Act} {w : World} {K : Act → World → Prop} {Q : Exit → Act → World → Prop} {d : Nat}
theorem lk_ldNode {s b f : Nat} {v0 v1 v2 v3 v4 : Value} (hd : o.dst = some d) (ho : o.op = .load 48 (.tmp s)) (hs : a.tmps[s]? = some (.pointer (some ⟨b, f, none⟩))) (h0 : w.cell? ⟨b, f, none⟩ = some v0) (h1 : w.cell? ⟨b, f + 1, none⟩ = some v1) (h2 : w.cell? ⟨b, f + 2, none⟩ = some v2) (h3 : w.cell? ⟨b, f + 3, none⟩ = some v3) (h4 : w.cell? ⟨b, f + 4, none⟩ = some v4)
    (hK : ∀ w', Nu w w' → K ⟨a.tmps.setIfInBounds d (.agg #[v0, v1, v2, v3, v4]), a.defers⟩ w') : Oper.wp Try.prog o a w K Q := by
  have he : a.eval (.tmp s) = .pointer (some ⟨b, f, none⟩) := by simp [Act.eval, hs]
  unfold Oper.wp execOp
  simp only [ho, hd]
  go_simp
  exact hK w (Mv.refl _ _)
theorem lk_rowNode {s : Nat} {v0 v1 v2 v3 v4 : Value} (hd : o.dst = some d) (ho : o.op = .buildSlice 22 1 #[(0, .tmp s)]) (hs : a.tmps[s]? = some (.agg #[v0, v1, v2, v3, v4])) (hK : K ⟨a.tmps.setIfInBounds d (.slice (some ⟨w.heap.size, 0, none⟩) 1 1), a.defers⟩ (w.alloc (.cells #[v0, v1, v2, v3, v4] 48))) : Oper.wp Try.prog o a w K Q := by
  have he : a.eval (.tmp s) = .agg #[v0, v1, v2, v3, v4] := by simp [Act.eval, hs]
  unfold Oper.wp execOp
  simp only [ho, hd]
  go_simp
  exact hK
theorem lk_mkNet {s : Nat} {g : Nat} (hd : o.dst = some d) (ho : o.op = .build 24 #[(0, .tmp s)]) (hs : a.tmps[s]? = some (.slice (some ⟨g, 0, none⟩) 1 1)) (hK : ∀ w', Nu w w' → K ⟨a.tmps.setIfInBounds d (.agg #[.slice (some ⟨g, 0, none⟩) 1 1]), a.defers⟩ w') : Oper.wp Try.prog o a w K Q := by
  have he : a.eval (.tmp s) = .slice (some ⟨g, 0, none⟩) 1 1 := by simp [Act.eval, hs]
  unfold Oper.wp execOp
  simp only [ho, hd]
  go_simp
  exact hK w (Mv.refl _ _)
theorem lk_netsT {s r : Nat} {g h : Nat} {y : Node} (hd : o.dst = some d) (ho : o.op = .call { callee := .value (.func 8), args := #[.tmp s, .tmp r], argTypes := #[24, 24] }) (hs : a.tmps[s]? = some (.agg #[.slice (some ⟨g, 0, none⟩) 1 1])) (hr : a.tmps[r]? = some (.agg #[.slice (some ⟨h, 0, none⟩) 1 1]))
    (h1 : NodesAt w w.heap.size (some ⟨g, 0, none⟩) [y]) (h2 : NodesAt w w.heap.size (some ⟨h, 0, none⟩) [y]) (hK : ∀ w', Nu w w' → K ⟨a.tmps.setIfInBounds d (.bool true), a.defers⟩ w') : Oper.wp Try.prog o a w K Q := by
  have hes : a.eval (.tmp s) = .agg #[.slice (some ⟨g, 0, none⟩) 1 1] := by simp [Act.eval, hs]
  have her : a.eval (.tmp r) = .agg #[.slice (some ⟨h, 0, none⟩) 1 1] := by simp [Act.eval, hr]
  unfold Oper.wp execOp
  simp only [ho, hd]
  go_simp
  refine (rNets_any w (cap := 1) (dap := 1) [y] [y] h1 h2 (Nat.le_refl _)).mono ?_
  rintro e w' ⟨rfl, hm⟩
  rw [decide_eq_true rfl]
  exact hK w' hm
theorem lk_notT {s : Nat} (hd : o.dst = some d) (ho : o.op = .unOp .not 4 (.tmp s)) (hs : a.tmps[s]? = some (.bool true)) (hK : ∀ w', Nu w w' → K ⟨a.tmps.setIfInBounds d (.bool false), a.defers⟩ w') : Oper.wp Try.prog o a w K Q := by
  have he : a.eval (.tmp s) = .bool true := by simp [Act.eval, hs]
  unfold Oper.wp execOp
  simp only [ho, hd]
  go_simp
  exact hK w (Mv.refl _ _)
end

theorem node_new {w : World} {y : Node} {v0 : Value} (h : ∃ ao cap, v0 = .slice ao y.arcs.length cap ∧ ArcsAt w w.heap.size ao y.arcs) : NodesAt (w.alloc (.cells #[v0, .int .u64 y.props, .bool y.en, .bool y.pr, .bool y.ac] 48)) (w.alloc (.cells #[v0, .int .u64 y.props, .bool y.en, .bool y.pr, .bool y.ac] 48)).heap.size (some ⟨w.heap.size, 0, none⟩) [y] := by
  have hb := heap_alloc_new w (.cells #[v0, .int .u64 y.props, .bool y.en, .bool y.pr, .bool y.ac] 48)
  have hn : Nu w (w.alloc (.cells #[v0, .int .u64 y.props, .bool y.en, .bool y.pr, .bool y.ac] 48)) := Mv.alloc _ _ _
  obtain ⟨ao, cap, hv, ha⟩ := h
  refine ⟨by simp, .inr ⟨w.heap.size, 0, rfl, lt_of_block hb, fun i hi => ?_⟩⟩
  have : i = 0 := by simp at hi; omega
  subst this
  exact ⟨⟨v0, cell_blk hb 0, ao, cap, hv, ha.below hn.nu_below hn.size⟩, cell_blk hb 1, cell_blk hb 2, cell_blk hb 3, cell_blk hb 4⟩

set_option maxHeartbeats 8000000 in
set_option maxRecDepth 40000 in
theorem productOne_any (w : World) (ao : Option Addr) (cap : Nat) (ns : List Node) (h : NodesAt w w.heap.size ao ns) (hr : arcsIn ns + 300 ≤ 262144) : Calls Try.prog 3 #[.agg #[.slice ao ns.length cap]] w fun e w' => e = .returned (.bool true) ∧ Nu w w' := by
  have HNS := hid h
  have HR := hid hr
  clear h hr
  go_enter Try.func3, Try.ntmps3
  go_upto_region 1 with fail
  have HB0 : Hid ((w.alloc (.cells #[.slice ao ns.length cap] 24)).heap[w.heap.size]? = some (.cells #[.slice ao ns.length cap] 24 (0, 0))) := heap_alloc_new w _
  have HN0 : Hid (Nu w (w.alloc (.cells #[.slice ao ns.length cap] 24))) := Mv.alloc _ _ _
  generalize w.alloc (.cells #[.slice ao ns.length cap] 24) = w0 at *
  have c0 := cell_blk HB0.out 0
  go_wp2_with fail
  refine (Of_anyT w0 ao cap ns (HNS.out.below HN0.out.nu_below HN0.out.size)).mono ?_
  rintro e w1 ⟨hn1, hcase⟩
  have HN1 := hid (mv0 HN0.out hn1)
  have HB1 : Hid (w1.heap[w.heap.size]? = some (.cells #[.slice ao ns.length cap] 24 (0, 0))) := hn1.heap HB0.out id
  clear c0 HB0 HN0 hn1
  rcases hcase with ⟨hm, rfl⟩ | ⟨hm, F1, r1, rfl, hs1, _⟩
  · clear hm
    go_wp2_with fail
    refine (known16_any w1).mono ?_
    rintro e w2 ⟨rfl, hn2⟩
    have HN2 := hid (mv0 HN1.out hn2)
    clear hn2
    go_wp2_with fail
    go_ret
    exact ⟨rfl, HN2.out⟩
  · have HM := hid hm
    have HS1 := hid hs1
    clear hm hs1
    have c0 := cell_blk HB1.out 0
    have hl1 : (ns.length : Int) ≤ 20000 := by have := (may_to HM.out).2.1; omega
    rcases Nat.lt_or_ge 300 ns.length with hbig | hle
    · have hbig' : (300 : Int) < (ns.length : Int) := by omega
      go_wp2_with fail
      refine (known16_any w1).mono ?_
      rintro e w2 ⟨rfl, hn2⟩
      have HN2 := hid (mv0 HN1.out hn2)
      clear hn2 c0
      go_wp2_with fail
      go_ret
      exact ⟨rfl, HN2.out⟩
    · have hle' : ¬ (300 : Int) < (ns.length : Int) := by omega
      have HLE := hid hle
      go_wp2_with fail
      have HST1 := hid (one_at w1)
      have HA1 : Hid (Nu w1 ((w1.alloc (.cells #[.int .u64 0, .int .u64 0, .int .i64 0] 36)).alloc (.cells #[.bool true, .slice (some ⟨w1.heap.size, 0, none⟩) 1 1] 39))) := mv0 (Mv.alloc _ _ _) (Mv.alloc _ _ _)
      have HZ1 : Hid (((w1.alloc (.cells #[.int .u64 0, .int .u64 0, .int .i64 0] 36)).alloc (.cells #[.bool true, .slice (some ⟨w1.heap.size, 0, none⟩) 1 1] 39)).heap.size = w1.heap.size + 2) := by show _ = _; rw [World.size_alloc, World.size_alloc]
      generalize (w1.alloc (.cells #[.int .u64 0, .int .u64 0, .int .i64 0] 36)).alloc (.cells #[.bool true, .slice (some ⟨w1.heap.size, 0, none⟩) 1 1] 39) = w2 at *
      refine (pair_of w2 (w1.heap.size + 1) one1 1 (fun b => w1.heap.size ≤ b ∧ b < w1.heap.size + 2) (fun b hb => by have := HZ1.out; omega) HST1.out fine_one F1 r1 ns HM.out (HS1.out.nu HA1.out)).mono ?_
      rintro e w3 ⟨hn3, F3, pb3, rfl, hs3⟩
      have HN3 := hid (mv0 HN1.out (mv0 HA1.out hn3))
      have HS3 := hid (HS1.out.nu (mv0 HA1.out hn3))
      have HP3 := hid hs3
      clear c0 hn3 hs3 HST1 HA1 HZ1 HS1 HB1
      go_wp2_with fail
      obtain ⟨ga, sa, hga⟩ := graph_some HM.out (most := 300) HLE.out
      obtain ⟨gb, sb, hgb⟩ := pair_some HM.out (most := 300) HLE.out (by have := HR.out; have := HLE.out; omega)
      have HGA := hid hga
      have HGB := hid hgb
      have HONE := hid (explored_one hga hgb)
      clear hga hgb
      refine (explore_anyR w3 F1 _ r1 _ 300 HS3.out (graph_fine1 HM.out).r (by decide) (by decide)).mono ?_
      rintro e w4 ⟨hn4, ⟨hx, _⟩ | ⟨ns4, ss4, na4, nc4, sa4, sc4, hx, rfl, hna4, _⟩⟩
      · rw [show (300 : Int).toNat = 300 from rfl, HGA.out] at hx; cases hx
      rw [show (300 : Int).toNat = 300 from rfl, HGA.out] at hx
      cases hx
      have HN4 := hid (mv0 HN3.out hn4)
      have HP4 := hid (HP3.out.nu hn4)
      have HGA4 := hid hna4
      clear hn4 hna4 HN3 HS3 HP3
      go_upto_region 10 with fail
      have HA5 : Hid (Nu w4 (w4.alloc (.cells #[.slice na4 ga.length nc4] 24))) := Mv.alloc _ _ _
      have HB5 : Hid ((w4.alloc (.cells #[.slice na4 ga.length nc4] 24)).heap[w4.heap.size]? = some (.cells #[.slice na4 ga.length nc4] 24 (0, 0))) := heap_alloc_new w4 _
      have HGA5 : Hid (NodesAt (w4.alloc (.cells #[.slice na4 ga.length nc4] 24)) (w4.alloc (.cells #[.slice na4 ga.length nc4] 24)).heap.size na4 ga) := HGA4.out.below HA5.out.nu_below HA5.out.size
      generalize w4.heap.size = b5 at *
      generalize w4.alloc (.cells #[.slice na4 ga.length nc4] 24) = w5 at *
      have HN5 := hid (mv0 HN4.out HA5.out)
      have HP5 := hid (HP4.out.nu HA5.out)
      clear HA5 HN4 HP4 HGA4
      go_wp2_with fail
      refine (explore_anyR w5 F3 _ _ _ 300 HP5.out (fine_pair HM.out fine_one) (by decide) (by decide)).mono ?_
      rintro e w6 ⟨hn6, ⟨hx, _⟩ | ⟨ns6, ss6, na6, nc6, sa6, sc6, hx, rfl, hna6, _⟩⟩
      · rw [show (300 : Int).toNat = 300 from rfl, HGB.out] at hx; cases hx
      rw [show (300 : Int).toNat = 300 from rfl, HGB.out] at hx
      cases hx
      have HN6 := hid (mv0 HN5.out hn6)
      have HB6 : Hid (w6.heap[b5]? = some (.cells #[.slice na4 ga.length nc4] 24 (0, 0))) := hn6.heap HB5.out id
      have HGA6 := hid (HGA5.out.below hn6.nu_below hn6.size)
      have HGB6 := hid hna6
      clear hn6 hna6 HN5 HP5 HB5 HGA5
      go_upto_region 11 with fail
      have HA7 : Hid (Nu w6 (w6.alloc (.cells #[.slice na6 gb.length nc6] 24))) := Mv.alloc _ _ _
      have HB7 : Hid ((w6.alloc (.cells #[.slice na6 gb.length nc6] 24)).heap[w6.heap.size]? = some (.cells #[.slice na6 gb.length nc6] 24 (0, 0))) := heap_alloc_new w6 _
      have HGA7 : Hid (NodesAt (w6.alloc (.cells #[.slice na6 gb.length nc6] 24)) (w6.alloc (.cells #[.slice na6 gb.length nc6] 24)).heap.size na4 ga) := HGA6.out.below HA7.out.nu_below HA7.out.size
      have HGB7 : Hid (NodesAt (w6.alloc (.cells #[.slice na6 gb.length nc6] 24)) (w6.alloc (.cells #[.slice na6 gb.length nc6] 24)).heap.size na6 gb) := HGB6.out.below HA7.out.nu_below HA7.out.size
      generalize w6.heap.size = b7 at *
      generalize w6.alloc (.cells #[.slice na6 gb.length nc6] 24) = w7 at *
      have HN7 := hid (mv0 HN6.out HA7.out)
      have HB8 : Hid (w7.heap[b5]? = some (.cells #[.slice na4 ga.length nc4] 24 (0, 0))) := HA7.out.heap HB6.out id
      clear HA7 HN6 HB6 HGA6 HGB6 HGA HGB
      have c5 := cell_blk HB8.out 0
      have c7 := cell_blk HB7.out 0
      have hlen := HONE.out.1
      go_upto_region 13 with fail
      clear c5 c7
      have hlA := HGA7.out.lim
      go_wp2_with fail
      go_loopw [13] (fun iv wr => ∃ i : Nat, i ≤ ga.length ∧ iv = .int .i64 (i : Int) ∧ Hid (Nu w7 wr)) (fun iv _ => ga.length - (intOf iv).toNat)
      case atStart => exact ⟨0, Nat.zero_le _, rfl, Mv.refl _ _⟩
      case round =>
        obtain ⟨i, hi, rfl, HNR⟩ := hrel
        have c5 := cell_blk (HNR.out.heap HB8.out id) 0
        rcases Nat.lt_or_ge i ga.length with hlt | hge
        · have hlt' : (i : Int) < (ga.length : Int) := by omega
          rcases HGA7.out.row with h0 | ⟨ab, af, hao, hab, hit⟩
          · omega
          subst hao
          have HX := hit i hlt
          have HGI := hid (HONE.out.2 i ga[i] (List.getElem?_eq_getElem hlt))
          generalize ga[i] = x at *
          obtain ⟨v0, k0, aao, aac, rfl, haa⟩ := HX.c0
          have HAA := hid haa
          have k0 := cell_mv HNR.out k0 id
          have k1 := cell_mv HNR.out HX.c1 id
          have k2 := cell_mv HNR.out HX.c2 id
          have k3 := cell_mv HNR.out HX.c3 id
          have k4 := cell_mv HNR.out HX.c4 id
          have HLT := hid hlt
          clear HX haa hit hab
          go_upto_region 18 with fail
          clear k0 k1 k2 k3 k4 c5
          have HA8 : Hid (Nu wr (wr.alloc (.cells #[.slice aao x.arcs.length aac, .int .u64 x.props, .bool x.en, .bool x.pr, .bool true] 48))) := Mv.alloc _ _ _
          have HX8 : Hid ((wr.alloc (.cells #[.slice aao x.arcs.length aac, .int .u64 x.props, .bool x.en, .bool x.pr, .bool true] 48)).heap[wr.heap.size]? = some (.cells #[.slice aao x.arcs.length aac, .int .u64 x.props, .bool x.en, .bool x.pr, .bool true] 48 (0, 0))) := heap_alloc_new wr _
          have HGE : Hid (w7.heap.size ≤ wr.heap.size) := HNR.out.size
          generalize wr.heap.size = bx at *
          generalize wr.alloc (.cells #[.slice aao x.arcs.length aac, .int .u64 x.props, .bool x.en, .bool x.pr, .bool true] 48) = w8 at *
          have HNR8 := hid (mv0 HNR.out HA8.out)
          have e0 := cell_blk HX8.out 0
          by_cases hemp : x.arcs = []
          · have hl0 : x.arcs.length = 0 := by rw [hemp]; rfl
            rw [hl0] at e0
            have z0 := free_blk HX8.out 0
            go_upto_region 19 with fail
            have HA9 : Hid (Nu w8 (w8.alloc (.cells #[.int .i64 (-1), .int .i64 (i : Int), .int .i64 0, .slice none 0 0, .slice none 0 0, .int .u64 0] 51))) := Mv.alloc _ _ _
            have HG9 : Hid ((w8.alloc (.cells #[.int .i64 (-1), .int .i64 (i : Int), .int .i64 0, .slice none 0 0, .slice none 0 0, .int .u64 0] 51)).heap[w8.heap.size]? = some (.cells #[.int .i64 (-1), .int .i64 (i : Int), .int .i64 0, .slice none 0 0, .slice none 0 0, .int .u64 0] 51 (0, 0))) := heap_alloc_new w8 _
            have HX9 := hid (HA9.out.heap HX8.out id)
            have HBL : Hid (bx < w8.heap.size) := lt_of_block HX8.out
            clear e0 z0
            have e0 := cell_blk HX9.out 0
            have z0 := free_blk HX9.out 0
            go_upto_region 20 with fail
            clear e0 z0 hl0
            trace_state
            generalize w8.heap.size = g9 at *
            generalize w8.alloc (.cells #[.int .i64 (-1), .int .i64 (i : Int), .int .i64 0, .slice none 0 0, .slice none 0 0, .int .u64 0] 51) = w9 at *
            have HMS : Hid (Mv (· = bx) w9 (w9.setCell ⟨bx, 0, none⟩ (.slice (some ⟨g9, 0, none⟩) 1 1))) := Mv.setCell w9 ⟨bx, 0, none⟩ _
            have HXS := hid (setCell_blk (i := 0) (u := .slice (some ⟨g9, 0, none⟩) 1 1) HX9.out)
            generalize w9.setCell ⟨bx, 0, none⟩ (.slice (some ⟨g9, 0, none⟩) 1 1) = w11 at *
            have HG11 := hid (HMS.out.heap HG9.out (by have := HBL.out; omega))
            have HFX : Hid ((fixN i x).arcs = [⟨-1, i, 0, [], [], 0⟩]) := by show _ = _; unfold fixN; simp only; rw [if_pos hemp]
            have HAR : Hid (ArcsAt w11 w11.heap.size (some ⟨g9, 0, none⟩) (fixN i x).arcs) := by
              show ArcsAt _ _ _ _
              rw [HFX.out]
              refine ⟨by simp, .inr ⟨g9, 0, rfl, lt_of_block HG11.out, fun j hj => ?_⟩⟩
              have : j = 0 := by simp at hj; omega
              subst this
              exact ⟨cell_blk HG11.out 0, cell_blk HG11.out 1, cell_blk HG11.out 2, ⟨_, cell_blk HG11.out 3, none, 0, rfl, ⟨by simp, .inl rfl⟩⟩, ⟨_, cell_blk HG11.out 4, none, 0, rfl, ⟨by simp, .inl rfl⟩⟩, cell_blk HG11.out 5⟩
            have HBX : Hid (w11.heap[bx]? = some (.cells #[.slice (some ⟨g9, 0, none⟩) (fixN i x).arcs.length 1, .int .u64 (fixN i x).props, .bool (fixN i x).en, .bool (fixN i x).pr, .bool (fixN i x).ac] 48 (0, 0))) := by
              show _ = _
              rw [HFX.out]
              exact HXS.out
            have HNW : Hid (Nu w7 w11) := (mv0 HNR8.out HA9.out).trans HMS.out (fun x hx => .inr (by have := HGE.out; omega))
            have HNR9 := hid HNW.out
            clear hemp HA8 HX8 HA9 HG9 HX9 HMS HXS HG11
            rename_i KC hKC
            rcases HGB7.out.row with h0 | ⟨bb, bo, hbo, hbb, hitb⟩
            · have := HONE.out.1; have := HLT.out; omega
            subst hbo
            have hib : i < gb.length := by rw [HONE.out.1]; exact HLT.out
            have HIB := hid hib
            have HY : NodeAt w7 w7.heap.size bb (bo + i * 5) (fixN i x) := by
              obtain ⟨h1, h2⟩ := List.getElem?_eq_some_iff.1 HGI.out
              rw [← h2]
              exact hitb i h1
            have HYN := hid HY
            clear hitb HY hib hbb
            refine wp_lookR (R20 bx b7 i bb bo gb.length nc6 (fixN i x)) R20.nu (by kernel_rfl) (by kernel_rfl) ?_ ?_
            · intro j o d a w' ho hd hn hfr had K hK
              have hj : j < 12 := (Array.getElem?_eq_some_iff.1 ho).1
              have f14 := hfr 14 (by kernel_rfl)
              have f10 := hfr 10 (by kernel_rfl)
              have f13 := hfr 13 (by kernel_rfl)
              have HBXn := hn.heap HBX.out id
              have : j = 0 ∨ j = 1 ∨ j = 2 ∨ j = 3 ∨ j = 4 ∨ j = 5 ∨ j = 6 ∨ j = 7 ∨ j = 8 ∨ j = 9 ∨ j = 10 ∨ j = 11 := by omega
              rcases this with rfl | rfl | rfl | rfl | rfl | rfl | rfl | rfl | rfl | rfl | rfl | rfl <;> cases ho <;> cases hd
              · exact ite_yes (want_none rfl) (lk_ldNode rfl rfl f14 (cell_blk HBXn 0) (cell_blk HBXn 1) (cell_blk HBXn 2) (cell_blk HBXn 3) (cell_blk HBXn 4) (fun w2 hm => hK w2 _ hm ⟨_, _, rfl, HAR.out.below (mv0 hn hm).nu_below (mv0 hn hm).size⟩))
              · obtain ⟨⟨_, h0, ao', cap', rfl, ha'⟩, _⟩ := had; exact ite_yes (want_none rfl) (lk_rowNode rfl rfl h0 (hK _ _ (Mv.alloc _ _ _) ⟨_, rfl, node_new ⟨_, _, rfl, ha'⟩⟩))
              · obtain ⟨⟨_, h0, g, rfl, hg⟩, _⟩ := had; exact ite_yes (want_none rfl) (lk_mkNet rfl rfl h0 (fun w2 hm => hK w2 _ hm ⟨g, rfl, hg.below hm.nu_below hm.size⟩))
              · exact ite_yes (want_none rfl) (lk_fieldNt rfl rfl f10 (fun w2 hm => hK w2 _ hm rfl))
              · obtain ⟨⟨_, h0, rfl⟩, _⟩ := had; exact ite_yes (want_none rfl) (lk_ldNds rfl rfl h0 (cell_blk ((mv0 HNW.out hn).heap HB7.out id) 0) (fun w2 hm => hK w2 _ hm rfl))
              · exact ite_yes (want_none rfl) (lk_move rfl rfl f13 (fun w2 hm => hK w2 _ hm rfl))
              · obtain ⟨⟨_, h0, rfl⟩, ⟨_, h1, rfl⟩, _⟩ := had; exact ite_yes (want_none rfl) (lk_idxNd rfl rfl h0 h1 HIB.out (fun w2 hm => hK w2 _ hm rfl))
              · obtain ⟨⟨_, h0, rfl⟩, _⟩ := had
                obtain ⟨u0, q0, cao, cac, rfl, hca⟩ := HYN.out.c0
                have hw := mv0 HNW.out hn
                exact ite_yes (want_none rfl) (lk_ldNode rfl rfl h0 (cell_mv hw q0 id) (cell_mv hw HYN.out.c1 id) (cell_mv hw HYN.out.c2 id) (cell_mv hw HYN.out.c3 id) (cell_mv hw HYN.out.c4 id) (fun w2 hm => hK w2 _ hm ⟨_, _, rfl, hca.below (mv0 hw hm).nu_below (mv0 hw hm).size⟩))
              · obtain ⟨⟨_, h0, ao', cap', rfl, ha'⟩, _⟩ := had; exact ite_yes (want_none rfl) (lk_rowNode rfl rfl h0 (hK _ _ (Mv.alloc _ _ _) ⟨_, rfl, node_new ⟨_, _, rfl, ha'⟩⟩))
              · obtain ⟨⟨_, h0, g, rfl, hg⟩, _⟩ := had; exact ite_yes (want_none rfl) (lk_mkNet rfl rfl h0 (fun w2 hm => hK w2 _ hm ⟨g, rfl, hg.below hm.nu_below hm.size⟩))
              · obtain ⟨⟨_, h0, g, rfl, hg⟩, ⟨_, h1, g2, rfl, hg2⟩, _⟩ := had; exact ite_yes (want_none rfl) (lk_netsT rfl rfl h0 h1 hg hg2 (fun w2 hm => hK w2 _ hm rfl))
              · obtain ⟨⟨_, h0, rfl⟩, _⟩ := had; exact ite_yes (want_none rfl) (lk_notT rfl rfl h0 (fun w2 hm => hK w2 _ hm rfl))
            · intro a w10 hn10 hdf hsz hfr htv
              obtain ⟨q0, t0, z0⟩ := htv 0 _ 95 rfl rfl
              obtain ⟨q1, t1, z1⟩ := htv 1 _ 96 rfl rfl
              obtain ⟨q2, t2, z2⟩ := htv 2 _ 97 rfl rfl
              obtain ⟨q7, t7, z7⟩ := htv 7 _ 102 rfl rfl
              obtain ⟨q8, t8, z8⟩ := htv 8 _ 103 rfl rfl
              obtain ⟨q9, t9, z9⟩ := htv 9 _ 104 rfl rfl
              clear z0 z1 z2 z7 z8 z9
              have htm := fill_eqN (vals := fun j => ([q0, q1, q2, .pointer (some ⟨b7, 0, none⟩), .slice (some ⟨bb, bo, none⟩) gb.length nc6, .int .i64 (i : Int), .pointer (some ⟨bb, bo + i * 5, none⟩), q7, q8, q9, .bool true, .bool false] : List Value).getD j undef) (by kernel_rfl) hfr (fun j o d hj hd => by
                have hj' : j < 12 := (Array.getElem?_eq_some_iff.1 hj).1
                obtain ⟨v, h, hv⟩ := htv j o d hj hd
                have : j = 0 ∨ j = 1 ∨ j = 2 ∨ j = 3 ∨ j = 4 ∨ j = 5 ∨ j = 6 ∨ j = 7 ∨ j = 8 ∨ j = 9 ∨ j = 10 ∨ j = 11 := by omega
                rcases this with rfl | rfl | rfl | rfl | rfl | rfl | rfl | rfl | rfl | rfl | rfl | rfl <;> cases hj <;> cases hd <;> first | exact t0 | exact t1 | exact t2 | exact t7 | exact t8 | exact t9 | exact h.trans (congrArg some hv))
              have HN10 := hid (mv0 HNR9.out hn10)
              refine hKC _ _ ?_
              rw [act_eq' htm hdf]
              clear htm hdf hsz hfr htv t0 t1 t2 t7 t8 t9 hKC hn10
              simp only [fill, List.getD_cons_succ, List.getD_cons_zero, List.setIfInBounds_toArray, List.set_cons_succ, List.set_cons_zero]
              go_wp2_with fail
              go_roundw
              case rel => exact ⟨i + 1, HLT.out, by go_num, HN10.out⟩
              case measure => have := HLT.out; simp [intOf]; omega
          · have hl0 : ¬ (x.arcs.length : Int) = 0 := fun h => hemp (List.length_eq_zero_iff.1 (by omega))
            have HFX : Hid ((fixN i x).arcs = x.arcs) := by show _ = _; unfold fixN; simp only; rw [if_neg hemp]
            have HAR : Hid (ArcsAt w8 w8.heap.size aao (fixN i x).arcs) := by
              show ArcsAt _ _ _ _
              rw [HFX.out]
              exact HAA.out.below HNR8.out.nu_below HNR8.out.size
            have HBX : Hid (w8.heap[bx]? = some (.cells #[.slice aao (fixN i x).arcs.length aac, .int .u64 (fixN i x).props, .bool (fixN i x).en, .bool (fixN i x).pr, .bool (fixN i x).ac] 48 (0, 0))) := by
              show _ = _
              rw [HFX.out]
              exact HX8.out
            have HNW := hid HNR8.out
            have HNR9 := hid HNR8.out
            clear hemp HA8 HX8
            go_upto_region 20 with fail
            clear e0 hl0
            rename_i KC hKC
            rcases HGB7.out.row with h0 | ⟨bb, bo, hbo, hbb, hitb⟩
            · have := HONE.out.1; have := HLT.out; omega
            subst hbo
            have hib : i < gb.length := by rw [HONE.out.1]; exact HLT.out
            have HIB := hid hib
            have HY : NodeAt w7 w7.heap.size bb (bo + i * 5) (fixN i x) := by
              obtain ⟨h1, h2⟩ := List.getElem?_eq_some_iff.1 HGI.out
              rw [← h2]
              exact hitb i h1
            have HYN := hid HY
            clear hitb HY hib hbb
            refine wp_lookR (R20 bx b7 i bb bo gb.length nc6 (fixN i x)) R20.nu (by kernel_rfl) (by kernel_rfl) ?_ ?_
            · intro j o d a w' ho hd hn hfr had K hK
              have hj : j < 12 := (Array.getElem?_eq_some_iff.1 ho).1
              have f14 := hfr 14 (by kernel_rfl)
              have f10 := hfr 10 (by kernel_rfl)
              have f13 := hfr 13 (by kernel_rfl)
              have HBXn := hn.heap HBX.out id
              have : j = 0 ∨ j = 1 ∨ j = 2 ∨ j = 3 ∨ j = 4 ∨ j = 5 ∨ j = 6 ∨ j = 7 ∨ j = 8 ∨ j = 9 ∨ j = 10 ∨ j = 11 := by omega
              rcases this with rfl | rfl | rfl | rfl | rfl | rfl | rfl | rfl | rfl | rfl | rfl | rfl <;> cases ho <;> cases hd
              · exact ite_yes (want_none rfl) (lk_ldNode rfl rfl f14 (cell_blk HBXn 0) (cell_blk HBXn 1) (cell_blk HBXn 2) (cell_blk HBXn 3) (cell_blk HBXn 4) (fun w2 hm => hK w2 _ hm ⟨_, _, rfl, HAR.out.below (mv0 hn hm).nu_below (mv0 hn hm).size⟩))
              · obtain ⟨⟨_, h0, ao', cap', rfl, ha'⟩, _⟩ := had; exact ite_yes (want_none rfl) (lk_rowNode rfl rfl h0 (hK _ _ (Mv.alloc _ _ _) ⟨_, rfl, node_new ⟨_, _, rfl, ha'⟩⟩))
              · obtain ⟨⟨_, h0, g, rfl, hg⟩, _⟩ := had; exact ite_yes (want_none rfl) (lk_mkNet rfl rfl h0 (fun w2 hm => hK w2 _ hm ⟨g, rfl, hg.below hm.nu_below hm.size⟩))
              · exact ite_yes (want_none rfl) (lk_fieldNt rfl rfl f10 (fun w2 hm => hK w2 _ hm rfl))
              · obtain ⟨⟨_, h0, rfl⟩, _⟩ := had; exact ite_yes (want_none rfl) (lk_ldNds rfl rfl h0 (cell_blk ((mv0 HNW.out hn).heap HB7.out id) 0) (fun w2 hm => hK w2 _ hm rfl))
              · exact ite_yes (want_none rfl) (lk_move rfl rfl f13 (fun w2 hm => hK w2 _ hm rfl))
              · obtain ⟨⟨_, h0, rfl⟩, ⟨_, h1, rfl⟩, _⟩ := had; exact ite_yes (want_none rfl) (lk_idxNd rfl rfl h0 h1 HIB.out (fun w2 hm => hK w2 _ hm rfl))
              · obtain ⟨⟨_, h0, rfl⟩, _⟩ := had
                obtain ⟨u0, q0, cao, cac, rfl, hca⟩ := HYN.out.c0
                have hw := mv0 HNW.out hn
                exact ite_yes (want_none rfl) (lk_ldNode rfl rfl h0 (cell_mv hw q0 id) (cell_mv hw HYN.out.c1 id) (cell_mv hw HYN.out.c2 id) (cell_mv hw HYN.out.c3 id) (cell_mv hw HYN.out.c4 id) (fun w2 hm => hK w2 _ hm ⟨_, _, rfl, hca.below (mv0 hw hm).nu_below (mv0 hw hm).size⟩))
              · obtain ⟨⟨_, h0, ao', cap', rfl, ha'⟩, _⟩ := had; exact ite_yes (want_none rfl) (lk_rowNode rfl rfl h0 (hK _ _ (Mv.alloc _ _ _) ⟨_, rfl, node_new ⟨_, _, rfl, ha'⟩⟩))
              · obtain ⟨⟨_, h0, g, rfl, hg⟩, _⟩ := had; exact ite_yes (want_none rfl) (lk_mkNet rfl rfl h0 (fun w2 hm => hK w2 _ hm ⟨g, rfl, hg.below hm.nu_below hm.size⟩))
              · obtain ⟨⟨_, h0, g, rfl, hg⟩, ⟨_, h1, g2, rfl, hg2⟩, _⟩ := had; exact ite_yes (want_none rfl) (lk_netsT rfl rfl h0 h1 hg hg2 (fun w2 hm => hK w2 _ hm rfl))
              · obtain ⟨⟨_, h0, rfl⟩, _⟩ := had; exact ite_yes (want_none rfl) (lk_notT rfl rfl h0 (fun w2 hm => hK w2 _ hm rfl))
            · intro a w10 hn10 hdf hsz hfr htv
              obtain ⟨q0, t0, z0⟩ := htv 0 _ 95 rfl rfl
              obtain ⟨q1, t1, z1⟩ := htv 1 _ 96 rfl rfl
              obtain ⟨q2, t2, z2⟩ := htv 2 _ 97 rfl rfl
              obtain ⟨q7, t7, z7⟩ := htv 7 _ 102 rfl rfl
              obtain ⟨q8, t8, z8⟩ := htv 8 _ 103 rfl rfl
              obtain ⟨q9, t9, z9⟩ := htv 9 _ 104 rfl rfl
              clear z0 z1 z2 z7 z8 z9
              have htm := fill_eqN (vals := fun j => ([q0, q1, q2, .pointer (some ⟨b7, 0, none⟩), .slice (some ⟨bb, bo, none⟩) gb.length nc6, .int .i64 (i : Int), .pointer (some ⟨bb, bo + i * 5, none⟩), q7, q8, q9, .bool true, .bool false] : List Value).getD j undef) (by kernel_rfl) hfr (fun j o d hj hd => by
                have hj' : j < 12 := (Array.getElem?_eq_some_iff.1 hj).1
                obtain ⟨v, h, hv⟩ := htv j o d hj hd
                have : j = 0 ∨ j = 1 ∨ j = 2 ∨ j = 3 ∨ j = 4 ∨ j = 5 ∨ j = 6 ∨ j = 7 ∨ j = 8 ∨ j = 9 ∨ j = 10 ∨ j = 11 := by omega
                rcases this with rfl | rfl | rfl | rfl | rfl | rfl | rfl | rfl | rfl | rfl | rfl | rfl <;> cases hj <;> cases hd <;> first | exact t0 | exact t1 | exact t2 | exact t7 | exact t8 | exact t9 | exact h.trans (congrArg some hv))
              have HN10 := hid (mv0 HNR9.out hn10)
              refine hKC _ _ ?_
              rw [act_eq' htm hdf]
              clear htm hdf hsz hfr htv t0 t1 t2 t7 t8 t9 hKC hn10
              simp only [fill, List.getD_cons_succ, List.getD_cons_zero, List.setIfInBounds_toArray, List.set_cons_succ, List.set_cons_zero]
              go_wp2_with fail
              go_roundw
              case rel => exact ⟨i + 1, HLT.out, by go_num, HN10.out⟩
              case measure => have := HLT.out; simp [intOf]; omega
        · obtain rfl : i = ga.length := by omega
          go_wp2_with fail
          refine (known16_any wr).mono ?_
          rintro e w12 ⟨rfl, hn12⟩
          have HN12 := hid (mv0 HN7.out (mv0 HNR.out hn12))
          clear hn12 c5
          go_wp2_with fail
          go_ret
          exact ⟨rfl, HN12.out⟩

end Go.Proofs.Ytmlpndcelfdlhaa
