/-
  NXplores.
-/
import Derived.Test.YtiinmaedmkgfoaaDoorM14
import Derived.Test.YtiinmaedmkgfoaaDoorM22
import Derived.Test.YtiinmaedmkgfoaaDoorM31
import Derived.Test.YtiinmaedmkgfoaaDoorM37
import Derived.Test.YtiinmaedmkgfoaaDoorM8
/-
  The walk of the statement NetExplores, over the contracts of the program's functions.
-/
set_option linter.unusedVariables false
namespace Go.Proofs.YtiinmaedmkgfoaaDoor
open Go.RowKit

set_option maxHeartbeats 8000000 in
set_option maxRecDepth 40000 in
theorem NetExplores_walk (HC : NCons) (HT : NConsU) (w : World) {ao : Option Addr} {cap : Nat} (ns : List Node) (h : NodesAt w w.heap.size ao ns) (v0 v1 v2 : Value) (t : Thr) (ht : ThrAt w w.heap.size v0 v1 v2 t) (most : Int) (hI : I64 most) (hTab : TabAt 0 Lib.deBruijn64tab w) :
    Calls Tryd.prog 4 #[.agg #[.slice ao ns.length cap], .agg #[v0, v1, v2], .int .i64 most] w fun e w' => e = .returned (.bool true) ∧ Nu w w' := by
  have HCH : Hid NCons := HC
  have HTH : Hid NConsU := HT
  have HN0 : Hid (NodesAt w w.heap.size ao ns ∧ ThrAt w w.heap.size v0 v1 v2 t ∧ I64 most) := ⟨h, ht, hI⟩
  have hlim := h.lim
  have HTAB := hid hTab
  clear HC HT h ht hI hTab
  have HM1 : Hid (Nu w ((w.alloc (.cells #[.slice ao ns.length cap] 46)).alloc (.cells #[v0, v1, v2] 26))) := mv0 (Mv.alloc _ _ _) (Mv.alloc _ _ _)
  have HB1 : Hid (((w.alloc (.cells #[.slice ao ns.length cap] 46)).alloc (.cells #[v0, v1, v2] 26)).heap[w.heap.size]? = some (.cells #[.slice ao ns.length cap] 46 (0, 0)) ∧ ((w.alloc (.cells #[.slice ao ns.length cap] 46)).alloc (.cells #[v0, v1, v2] 26)).heap[w.heap.size + 1]? = some (.cells #[v0, v1, v2] 26 (0, 0))) := by
    refine ⟨(Mv.alloc (fun _ => False) _ _).heap (heap_alloc_new w _) id, ?_⟩
    have := heap_alloc_new (w.alloc (.cells #[.slice ao ns.length cap] 46)) (.cells #[v0, v1, v2] 26)
    rw [World.size_alloc] at this
    exact this
  go_enter Tryd.func4, Tryd.ntmps4
  go_wp2_with fail
  generalize (w.alloc (.cells #[.slice ao ns.length cap] 46)).alloc (.cells #[v0, v1, v2] 26) = w1 at *
  refine (HTH.out.explS w1 5).mono ?_
  rintro e w2 ⟨hn2, na, nn, nc, sa, sn, sc, rfl⟩
  have HM2 : Hid (Nu w w2) := mv0 HM1.out hn2
  have HB2 : Hid (w2.heap[w.heap.size]? = some (.cells #[.slice ao ns.length cap] 46 (0, 0)) ∧ w2.heap[w.heap.size + 1]? = some (.cells #[v0, v1, v2] 26 (0, 0))) := ⟨hn2.heap HB1.out.1 id, hn2.heap HB1.out.2 id⟩
  clear hn2 HM1 HB1
  go_upto_region 2 with fail
  have HN3 : Hid (Nu w2 (w2.alloc (.cells #[.slice na nn nc] 46))) := Mv.alloc _ _ _
  generalize w2.alloc (.cells #[.slice na nn nc] 46) = w3 at *
  have c0 := cell_blk (HN3.out.heap HB2.out.1 id) 0
  simp only [List.size_toArray, List.length_cons, List.length_nil, Nat.reduceAdd, Nat.lt_add_one, getElem?_pos, List.getElem_toArray, List.getElem_cons_zero] at c0
  have HM3 : Hid (Nu w w3) := mv0 HM2.out HN3.out
  have HB3 : Hid (w3.heap[w.heap.size + 1]? = some (.cells #[v0, v1, v2] 26 (0, 0))) := HN3.out.heap HB2.out.2 id
  clear HN3 HB2 HM2
  go_wp2_with fail
  refine (HCH.out.of w3 ao cap ns (nodes_nu HN0.out.1 HM3.out)).mono ?_
  rintro e w4 ⟨hn4, h4⟩
  have HM4 : Hid (Nu w w4) := mv0 HM3.out hn4
  have d0 := cell_blk (hn4.heap HB3.out id) 0
  have d1 := cell_blk (hn4.heap HB3.out id) 1
  have d2 := cell_blk (hn4.heap HB3.out id) 2
  simp only [List.size_toArray, List.length_cons, List.length_nil, Nat.reduceAdd, Nat.lt_add_one, Nat.reduceLT, getElem?_pos, List.getElem_toArray, List.getElem_cons_zero, List.getElem_cons_succ, Nat.zero_lt_succ] at d0 d1 d2
  clear hn4 c0 HB3 HM3
  rcases h4 with ⟨hno, rfl⟩ | ⟨hyes, F, T, r0, rfl, hsys, _⟩
  · clear hno
    go_wp2_with fail
    refine (HTH.out.ofT w4 v0 v1 v2 t (HN0.out.2.1.nu HM4.out) (tab_nu HTAB.out HM4.out)).mono ?_
    rintro e w5 ⟨hn5, ⟨code, rfl, hcode⟩ | ⟨F', T', r0', M', rfl, hsys', hf'⟩⟩
    · have HM5 : Hid (Nu w w5) := mv0 HM4.out hn5
      clear hn5 d0 d1 d2
      go_wp2_with fail
      refine (known_any HCH.out w5).mono ?_
      rintro e w6 ⟨rfl, hn6⟩
      have HM6 : Hid (Nu w w6) := mv0 HM5.out hn6
      clear hn6
      go_wp2
      go_ret
      exact ⟨rfl, HM6.out⟩
    · have HM5 : Hid (Nu w w5) := mv0 HM4.out hn5
      have HS5 : Hid (SysAt F' w5 T' r0' M' ∧ M'.Fine) := ⟨hsys', hf'⟩
      clear hn5 d0 d1 d2 hsys' hf'
      go_wp2_with fail
      refine (explores_any HCH.out w5 F' T' r0' M' most HS5.out.1 HS5.out.2 HN0.out.2.2).mono ?_
      rintro e w6 ⟨rfl, hn6⟩
      have HM6 : Hid (Nu w w6) := mv0 HM5.out hn6
      clear hn6
      go_wp2_with fail
      refine (known_any HCH.out w6).mono ?_
      rintro e w7 ⟨rfl, hn7⟩
      have HM7 : Hid (Nu w w7) := mv0 HM6.out hn7
      clear hn7
      go_wp2
      go_ret
      exact ⟨rfl, HM7.out⟩
  · have HS4 : Hid (SysAt F w4 T r0 (graphSem ns) ∧ (graphSem ns).Fine) := ⟨hsys, graph_fine _ (may_parts hyes).2.1 hyes⟩
    clear hyes hsys
    go_wp2_with fail
    refine (HTH.out.ofT w4 v0 v1 v2 t (HN0.out.2.1.nu HM4.out) (tab_nu HTAB.out HM4.out)).mono ?_
    rintro e w5 ⟨hn5, h5⟩
    have HM5 : Hid (Nu w w5) := mv0 HM4.out hn5
    have HS5 : Hid (SysAt F w5 T r0 (graphSem ns) ∧ (graphSem ns).Fine) := ⟨HS4.out.1.nu hn5, HS4.out.2⟩
    clear hn5 d0 d1 d2 HS4
    rcases h5 with ⟨code, rfl, hcode⟩ | ⟨F', T', r0', M', rfl, hsys', hf'⟩
    · go_wp2_with fail
      refine (explores_any HCH.out w5 F T r0 _ most HS5.out.1 HS5.out.2 HN0.out.2.2).mono ?_
      rintro e w6 ⟨rfl, hn6⟩
      have HM6 : Hid (Nu w w6) := mv0 HM5.out hn6
      clear hn6
      go_wp2_with fail
      refine (known_any HCH.out w6).mono ?_
      rintro e w7 ⟨rfl, hn7⟩
      have HM7 : Hid (Nu w w7) := mv0 HM6.out hn7
      clear hn7
      go_wp2
      go_ret
      exact ⟨rfl, HM7.out⟩
    · have HS5' : Hid (SysAt F' w5 T' r0' M' ∧ M'.Fine) := ⟨hsys', hf'⟩
      clear hsys' hf'
      go_wp2_with fail
      refine (explores_any HCH.out w5 F T r0 _ most HS5.out.1 HS5.out.2 HN0.out.2.2).mono ?_
      rintro e w6 ⟨rfl, hn6⟩
      have HM6 : Hid (Nu w w6) := mv0 HM5.out hn6
      have HS6 : Hid (SysAt F' w6 T' r0' M' ∧ M'.Fine) := ⟨HS5'.out.1.nu hn6, HS5'.out.2⟩
      clear hn6
      go_wp2_with fail
      refine (explores_any HCH.out w6 F' T' r0' M' most HS6.out.1 HS6.out.2 HN0.out.2.2).mono ?_
      rintro e w7 ⟨rfl, hn7⟩
      have HM7 : Hid (Nu w w7) := mv0 HM6.out hn7
      clear hn7
      go_wp2_with fail
      refine (known_any HCH.out w7).mono ?_
      rintro e w8 ⟨rfl, hn8⟩
      have HM8 : Hid (Nu w w8) := mv0 HM7.out hn8
      clear hn8
      go_wp2
      go_ret
      exact ⟨rfl, HM8.out⟩

end Go.Proofs.YtiinmaedmkgfoaaDoor
