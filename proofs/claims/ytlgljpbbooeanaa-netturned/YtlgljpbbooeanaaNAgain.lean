/-
  The walk of the statement NetAgain, over the contracts of the program's functions.
-/
import Derived.Test.YtlgljpbbooeanaaNKnown
import Derived.Test.YtlgljpbbooeanaaNAgain1
namespace Go.Proofs.Ytlgljpbbooeanaa
open Go.RowKit

theorem nodes_nu {w w' : World} {ao : Option Addr} {ns : List Node} (h : NodesAt w w.heap.size ao ns) (hn : Nu w w') : NodesAt w' w'.heap.size ao ns := h.below hn.nu_below hn.size

set_option maxHeartbeats 8000000 in
set_option maxRecDepth 40000 in
theorem NetAgain_walk (HC : NCons) (w : World) {ao : Option Addr} {cap : Nat} (ns : List Node) (h : NodesAt w w.heap.size ao ns) :
    Calls Try.prog 4 #[.agg #[.slice ao ns.length cap]] w fun e w' => e = .returned (.bool true) ∧ Nu w w' := by
  have HCH : Hid NCons := HC
  have HN0 : Hid (NodesAt w w.heap.size ao ns) := h
  have hlim := h.lim
  clear HC h
  have hnil : ∀ (W : World) (T : TypeId) (r : Value), (binOp BinOp.eql 27 (.iface T r) .nilIface).run Try.prog W = .ok (.bool false) W := fun _ _ _ => by rfl
  go_enter Try.func4, Try.ntmps4
  go_wp2_with fail
  have HM1 : Hid (Nu w (w.alloc (.cells #[.slice ao ns.length cap] 24))) := Mv.alloc _ _ _
  have HB1 : Hid ((w.alloc (.cells #[.slice ao ns.length cap] 24)).cell? ⟨w.heap.size, 0, none⟩ = some (.slice ao ns.length cap)) := cell_blk (box_new w _ _) 0
  generalize w.alloc (.cells #[.slice ao ns.length cap] 24) = w1 at *
  refine (HCH.out.of w1 ao cap ns (nodes_nu HN0.out HM1.out)).mono ?_
  rintro e w2 ⟨hn2, ⟨hno, rfl⟩ | ⟨hyes, F, T, r0, rfl, hsys, hF⟩⟩
  · have HM2 : Hid (Nu w w2) := mv0 HM1.out hn2
    clear hn2 hno HB1 HM1
    go_wp2_with fail
    refine (known_any HCH.out w2).mono ?_
    rintro e w3 ⟨rfl, hn3⟩
    have HM3 : Hid (Nu w w3) := mv0 HM2.out hn3
    clear hn3
    go_wp2
    go_ret
    exact ⟨rfl, HM3.out⟩
  obtain ⟨gs, ss, he, hl1, hmg, hl2, hl3, hl4, he2⟩ := again_of hyes
  have HS2 : Hid (SysAt F w2 T r0 (graphSem ns)) := hsys
  have HM2 : Hid (Nu w w2) := mv0 HM1.out hn2
  have d1 := cell_mv hn2 HB1.out id
  have HPL : Hid (explored (graphSem ns) 20000 = some (gs, ss) ∧ mayN gs = true ∧ gs.length = ss.length ∧ explored (graphSem gs) ss.length = some (gs, rangeS ss.length) ∧ mayN ns = true) := ⟨he, hmg, hl2, he2, hyes⟩
  have hl1' : (ss.length : Int) ≤ (ns.length : Int) := by omega
  have hl3' : 1 ≤ (ss.length : Int) := by omega
  have hl4' : (ss.length : Int) ≤ 20000 := by omega
  clear hsys hn2 hF he hmg hl2 he2 hl1 hl3 hl4 HB1 HM1
  go_wp2_with fail
  refine (HCH.out.expl w2 F T r0 _ 20000 HS2.out (graph_fine _ (may_parts HPL.out.2.2.2.2).2.1 HPL.out.2.2.2.2) (by unfold I64; decide)).mono ?_
  rintro e w3 ⟨hn3, na, nc, sa, sc, gs3, ss3, code, rfl, hgs, hss, (⟨h, _⟩ | ⟨_, _, h, _⟩ | ⟨_, _, h, rfl⟩)⟩
  · omega
  · rw [show (20000 : Int).toNat = 20000 from rfl, HPL.out.1] at h; cases h
  rw [show (20000 : Int).toNat = 20000 from rfl, HPL.out.1] at h
  obtain ⟨rfl, rfl⟩ : gs = gs3 ∧ ss = ss3 := by simpa using h
  have HM3 : Hid (Nu w w3) := mv0 HM2.out hn3
  have HG3 : Hid (NodesAt w3 w3.heap.size na gs) := hgs
  replace d1 := cell_mv hn3 d1 id
  have hgl := hgs.lim
  clear hn3 hgs hss h HS2 HM2
  go_upto_region 7 with fail
  have HN4 : Hid (Nu w3 (w3.alloc (.cells #[.slice na gs.length nc] 24))) := Mv.alloc _ _ _
  have HB4 : Hid ((w3.alloc (.cells #[.slice na gs.length nc] 24)).cell? ⟨w3.heap.size, 0, none⟩ = some (.slice na gs.length nc)) := cell_blk (box_new w3 _ _) 0
  replace d1 := cell_mv HN4.out d1 id
  generalize w3.alloc (.cells #[.slice na gs.length nc] 24) = w4 at *
  have d4 := HB4.out
  go_wp2_with fail
  refine (HCH.out.check w4 na nc gs (nodes_nu HG3.out HN4.out)).mono ?_
  rintro e w5 ⟨rfl, hn5⟩
  rw [HPL.out.2.1, if_pos rfl]
  have HN5 : Hid (Nu w3 w5) := mv0 HN4.out hn5
  replace d1 := cell_mv hn5 d1 id
  replace d4 := cell_mv hn5 d4 id
  clear hn5 HN4 HB4
  go_wp2_with fail
  refine (HCH.out.of w5 na nc gs (nodes_nu HG3.out HN5.out)).mono ?_
  rintro e w6 ⟨hn6, ⟨hno, _⟩ | ⟨_, F', T', r0', rfl, hsys, _⟩⟩
  · rw [HPL.out.2.1] at hno; cases hno
  have HN6 : Hid (Nu w3 w6) := mv0 HN5.out hn6
  have HS6 : Hid (SysAt F' w6 T' r0' (graphSem gs)) := hsys
  replace d1 := cell_mv hn6 d1 id
  replace d4 := cell_mv hn6 d4 id
  clear hn6 hsys HN5
  go_wp2_with fail
  refine (HCH.out.expl w6 F' T' r0' _ (ss.length : Int) HS6.out (graph_fine _ (may_parts HPL.out.2.1).2.1 HPL.out.2.1) (by unfold I64; omega)).mono ?_
  rintro e w7 ⟨hn7, na7, nc7, sa7, sc7, gs7, ss7, code7, rfl, hgs7, hss7, (⟨h, _⟩ | ⟨_, _, h, _⟩ | ⟨_, _, h, rfl⟩)⟩
  · omega
  · rw [Int.toNat_natCast, HPL.out.2.2.2.1] at h; cases h
  rw [Int.toNat_natCast, HPL.out.2.2.2.1] at h
  obtain ⟨rfl, rfl⟩ : gs = gs7 ∧ rangeS ss.length = ss7 := by simpa using h
  have HN7 : Hid (Nu w3 w7) := mv0 HN6.out hn7
  have HG7 : Hid (NodesAt w7 w7.heap.size na7 gs) := hgs7
  replace d1 := cell_mv hn7 d1 id
  replace d4 := cell_mv hn7 d4 id
  rw [rangeS_len]
  clear hn7 hgs7 hss7 h HN6 HS6
  go_upto_region 13 with fail
  have HN8 : Hid (Nu w7 (w7.alloc (.cells #[.slice na7 gs.length nc7] 24))) := Mv.alloc _ _ _
  have HB8 : Hid ((w7.alloc (.cells #[.slice na7 gs.length nc7] 24)).cell? ⟨w7.heap.size, 0, none⟩ = some (.slice na7 gs.length nc7)) := cell_blk (box_new w7 _ _) 0
  replace d4 := cell_mv HN8.out d4 id
  clear d1
  generalize w7.alloc (.cells #[.slice na7 gs.length nc7] 24) = w8 at *
  have d8 := HB8.out
  have HG8 : Hid (NodesAt w8 w8.heap.size na7 gs ∧ NodesAt w8 w8.heap.size na gs) := ⟨nodes_nu HG7.out HN8.out, nodes_nu HG3.out (mv0 HN7.out HN8.out)⟩
  clear HB8
  go_wp2_with fail
  refine (rNets_any w8 gs gs HG8.out.1 HG8.out.2 (Nat.le_refl _)).mono ?_
  rintro e w9 ⟨rfl, hn9⟩
  rw [show decide (gs = gs) = true from decide_eq_true rfl]
  have HM9 : Hid (Nu w w9) := mv0 (mv0 HM3.out (mv0 HN7.out HN8.out)) hn9
  clear hn9 d4 d8 HG8
  go_wp2_with fail
  refine (known_any HCH.out w9).mono ?_
  rintro e w10 ⟨rfl, hn10⟩
  have HM10 : Hid (Nu w w10) := mv0 HM9.out hn10
  clear hn10 HCH
  go_wp2
  go_ret
  exact ⟨rfl, HM10.out⟩

end Go.Proofs.Ytlgljpbbooeanaa
