/-
  GMain.
-/
import Derived.Test.YtkjalclplfdpmaaM40
/-
  The walk of the statement NetGraphs, over the contracts of the program's functions.
-/
set_option linter.unusedVariables false
set_option linter.unusedSimpArgs false
namespace Go.Proofs.Ytkjalclplfdpmaa
open Go.RowKit

theorem nodes_nu {w w' : World} {ao : Option Addr} {ns : List Node} (h : NodesAt w w.heap.size ao ns) (hn : Nu w w') : NodesAt w' w'.heap.size ao ns := h.below hn.nu_below hn.size

set_option maxHeartbeats 16000000 in
set_option maxRecDepth 100000 in
theorem NetGraphs_walk (HC : NCons) (w : World) {ao : Option Addr} {cap : Nat} (ns : List Node) (h : NodesAt w w.heap.size ao ns) (hf : FitN ns) (st : ByteArray) (hst : Short st) (early : Int) (hea : I64 early) :
    Calls Try.prog 3 #[.agg #[.slice ao ns.length cap], .string st, .int .i64 early] w fun e w' => e = .returned (.bool true) ∧ Nu w w' := by
  have HCH : Hid NCons := HC
  have HNS := hid h
  have HFIT := hid hf
  have HST := hid hst
  have HEA := hid hea
  have hlim := h.lim
  clear HC h hf hst hea
  have hnil : ∀ (W : World) (T : TypeId) (r : Value), (binOp BinOp.eql 27 (.iface T r) .nilIface).run Try.prog W = .ok (.bool false) W := fun _ _ _ => by rfl
  go_enter Try.func3, Try.ntmps3
  go_upto_region 1 with fail
  have HM1 : Hid (Nu w (w.alloc (.cells #[.slice ao ns.length cap] 24))) := Mv.alloc _ _ _
  have HB1 : Hid ((w.alloc (.cells #[.slice ao ns.length cap] 24)).cell? ⟨w.heap.size, 0, none⟩ = some (.slice ao ns.length cap)) := cell_blk (box_new w _ _) 0
  have HZ1 : Hid ((w.alloc (.cells #[.slice ao ns.length cap] 24)).heap.size = w.heap.size + 1) := World.size_alloc _ _
  generalize w.alloc (.cells #[.slice ao ns.length cap] 24) = w1 at *
  have d1 := HB1.out
  go_upto_region 2 with (go_at_call 4; refine (own_any w1 ns (nodes_nu HNS.out HM1.out) HFIT.out).mono ?_; rintro e w2 ⟨hn2, no, nc, rfl, nxs, hown⟩; have HN2 := hid hn2; have HOWN := hid hown; clear hn2 hown)
  clear d1
  have HN3 : Hid (Nu w2 (w2.alloc (.cells #[.slice no ns.length nc] 24))) := Mv.alloc _ _ _
  have HB3 : Hid ((w2.alloc (.cells #[.slice no ns.length nc] 24)).cell? ⟨w2.heap.size, 0, none⟩ = some (.slice no ns.length nc)) := cell_blk (box_new w2 _ _) 0
  have HZ3 : Hid ((w2.alloc (.cells #[.slice no ns.length nc] 24)).heap.size = w2.heap.size + 1) := World.size_alloc _ _
  generalize w2.alloc (.cells #[.slice no ns.length nc] 24) = w3 at *
  have d3 := HB3.out
  have HXN : Hid (NodesAt w2 w2.heap.size no ns) := HOWN.out.at hlim
  have HWR : Hid (0 < ns.length → ∃ g, no = some ⟨g, 0, none⟩ ∧ NodW w2 w1.heap.size w2.heap.size g ns.length) := fun h0 => by
    rcases HOWN.out.wr hlim with h | h
    · omega
    · exact h
  clear HOWN
  have HM3 : Hid (Nu w w3) := mv0 HM1.out (mv0 HN2.out HN3.out)
  go_wp2_with fail
  refine (HCH.out.of w3 no nc ns (nodes_nu HXN.out HN3.out)).mono ?_
  rintro e w4 ⟨hn4, ⟨hno, rfl⟩ | ⟨hyes, F, T, r0, rfl, hsys, hF⟩⟩
  · have HMN : Hid (mayN ns = false) := hno
    have HN4 : Hid (Nu w2 w4) := mv0 HN3.out hn4
    replace d3 := cell_mv hn4 d3 id
    have d1 := cell_mv (mv0 HN2.out HN4.out) HB1.out id
    have HM4 : Hid (Nu w w4) := mv0 HM3.out hn4
    clear hno hn4
    go_upto_region 4 with (go_at_call 6; refine (rCheck_any _ _ _ _ (nodes_nu HNS.out HM4.out)).mono ?_; rintro e w5 ⟨rfl, hn5⟩; rw [HMN.out]; have HN5 := hid hn5; clear hn5)
    replace d3 := cell_mv HN5.out d3 id
    go_wp2_with fail
    refine (HCH.out.check w5 no nc ns (nodes_nu HXN.out (mv0 HN4.out HN5.out))).mono ?_
    rintro e w6 ⟨rfl, hn6⟩
    rw [HMN.out]
    have HM6 : Hid (Nu w w6) := mv0 HM4.out (mv0 HN5.out hn6)
    clear hn6 d1 d3
    go_wp2_with fail
    refine (known_any HCH.out w6).mono ?_
    rintro e w7 ⟨rfl, hn7⟩
    have HM7 : Hid (Nu w w7) := mv0 HM6.out hn7
    clear hn7
    go_wp2
    go_ret
    exact ⟨rfl, HM7.out⟩
  have HM := hid hyes
  have HN4 : Hid (Nu w2 w4) := mv0 HN3.out hn4
  replace d3 := cell_mv hn4 d3 id
  have d1 := cell_mv (mv0 HN2.out HN4.out) HB1.out id
  have HM4 : Hid (Nu w w4) := mv0 HM3.out hn4
  have HS4 := hid hsys
  have HF4 : Hid (∀ b, F b → w3.heap.size ≤ b) := hF
  obtain ⟨_, hl, _, _⟩ := may_parts hyes
  have HL := hid hl
  have hlI : (ns.length : Int) ≤ 20000 := by omega
  clear hyes hsys hF hn4 hl
  go_upto_region 4 with (go_at_call 6; refine (rCheck_any _ _ _ _ (nodes_nu HNS.out HM4.out)).mono ?_; rintro e w5 ⟨rfl, hn5⟩; rw [HM.out, if_pos rfl]; have HN5 := hid hn5; clear hn5)
  replace d3 := cell_mv HN5.out d3 id
  clear d1
  go_wp2_with fail
  refine (HCH.out.check w5 no nc ns (nodes_nu HXN.out (mv0 HN4.out HN5.out))).mono ?_
  rintro e w6 ⟨rfl, hn6⟩
  rw [HM.out, if_pos rfl]
  have HN6 : Hid (Nu w2 w6) := mv0 HN4.out (mv0 HN5.out hn6)
  have HM6 : Hid (Nu w w6) := mv0 HM4.out (mv0 HN5.out hn6)
  have HS6 : Hid (SysAt F w6 T r0 (graphSem ns)) := (HS4.out.nu HN5.out).nu hn6
  replace d3 := cell_mv hn6 d3 id
  clear hn6 HN5 HS4
  have HSP : Hid (∃ g, 0 < ns.length → no = some ⟨g, 0, none⟩ ∧ NodW w6 w1.heap.size w2.heap.size g ns.length) := by
    rcases Nat.eq_zero_or_pos ns.length with h0 | h0
    · exact ⟨0, fun h => absurd h (by omega)⟩
    · obtain ⟨g, e1, e2⟩ := HWR.out h0
      exact ⟨g, fun _ => ⟨e1, e2.sh (ShI.nu HN6.out)⟩⟩
  obtain ⟨g, hsp⟩ := HSP.out
  have HSG := hid hsp
  clear hsp HSP
  go_upto_region 11 with (go_at_call 9; refine (spoil_any w6 w1.heap.size w2.heap.size g ns.length nc no HN6.out.size hlim HSG.out).mono ?_; rintro e w7 ⟨rfl, hm7⟩; have HS7 := hid hm7; clear hm7)
  have HSYS : Hid (SysAt F w7 T r0 (graphSem ns)) := HS6.out.mv HS7.out (fun b hb hx => by
    have h1 := HF4.out b hb
    have h2 : b < w2.heap.size := hx.2
    have h3 := HZ3.out
    omega)
  have HNW7 : Hid (Nu w w7) := HM6.out.trans HS7.out (fun x hx => .inr (by have h1 : w1.heap.size ≤ x := hx.1; have := HZ1.out; omega))
  have d1 : w7.cell? ⟨w.heap.size, 0, none⟩ = some (.slice ao ns.length cap) := cell_mv HS7.out (cell_mv (mv0 HN2.out HN6.out) HB1.out id) (fun hx => by have h1 : w1.heap.size ≤ w.heap.size := hx.1; have := HZ1.out; omega)
  clear d3 HS7 HS6 HF4 HSG HWR HXN HB3 HN3 HN4 HN2 HM3 HM4 HM6 HN6 HZ3 HB1 HM1 HZ1
  rename_i KC hKC
  refine wp_lookR (RMA T r0 ⟨#[0]⟩ st (.slice ao ns.length cap) early ((graphSem ns).next st) ((graphSem ns).look st)) RMA.nu (by kernel_rfl) (by kernel_rfl) ?step ?post
  case step =>
    intro q o d a w' ho hd hn hfr had K hK
    have hq : q < 22 := (Array.getElem?_eq_some_iff.1 ho).1
    have f1 := hfr 1 (by kernel_rfl)
    have f2 := hfr 2 (by kernel_rfl)
    have f3 := hfr 3 (by kernel_rfl)
    have f8 := hfr 8 (by kernel_rfl)
    have hsy := HSYS.out.nu hn
    have hns := HNS.out.below (mv0 HNW7.out hn).nu_below (mv0 HNW7.out hn).size
    have hbx := cell_mv hn d1 id
    have : q = 0 ∨ q = 1 ∨ q = 2 ∨ q = 3 ∨ q = 4 ∨ q = 5 ∨ q = 6 ∨ q = 7 ∨ q = 8 ∨ q = 9 ∨ q = 10 ∨ q = 11 ∨ q = 12 ∨ q = 13 ∨ q = 14 ∨ q = 15 ∨ q = 16 ∨ q = 17 ∨ q = 18 ∨ q = 19 ∨ q = 20 ∨ q = 21 := by omega
    rcases this with rfl | rfl | rfl | rfl | rfl | rfl | rfl | rfl | rfl | rfl | rfl | rfl | rfl | rfl | rfl | rfl | rfl | rfl | rfl | rfl | rfl | rfl <;> cases ho <;> cases hd
    · exact ite_yes (want_none rfl) (lk_move rfl rfl f8 (fun w2 hm => hK w2 _ hm rfl))
    · obtain ⟨⟨_, h0, rfl⟩, _⟩ := had; obtain ⟨f, r, ⟨hmt, hen, _⟩, hc⟩ := (hsy.does _ (KeepF.refl _ _)).bg; exact ite_yes (want_none rfl) (lk_beginM hmt hen rfl rfl h0 (hc.mono (fun e w' h => by rw [← nst_zero]; exact h)) (fun w2 hm => hK w2 _ hm rfl))
    · obtain ⟨⟨_, h0, rfl⟩, _⟩ := had; exact ite_yes (want_none rfl) (lk_neqStr rfl rfl h0 (fun w2 hm => hK w2 _ hm rfl))
    · obtain ⟨⟨_, h0, rfl⟩, ⟨_, h1, rfl⟩, _⟩ := had; exact ite_yes (want_none rfl) (lk_move rfl rfl h0 (fun w2 hm => hK w2 _ hm rfl))
    · obtain ⟨⟨_, h0, rfl⟩, _⟩ := had; exact ite_yes (want_some rfl rfl rfl h0) (lk_move rfl rfl f8 (fun w2 hm => hK w2 _ hm rfl))
    · obtain ⟨⟨_, h0, rfl⟩, _⟩ := had; exact ite_yes (want_some rfl rfl rfl h0) (lk_move rfl rfl f1 (fun w2 hm => hK w2 _ hm rfl))
    · obtain ⟨⟨_, h0, rfl⟩, _⟩ := had; exact ite_yes (want_some rfl rfl rfl h0) (lk_loadNet rfl rfl f3 hbx (fun w2 hm => hK w2 _ hm rfl))
    · obtain ⟨⟨_, h0, rfl⟩, _⟩ := had; exact ite_yes (want_some rfl rfl rfl h0) (lk_move rfl rfl f1 (fun w2 hm => hK w2 _ hm rfl))
    · obtain ⟨⟨_, h0, rfl⟩, ⟨_, h1, rfl⟩, ⟨_, h2, rfl⟩, ⟨_, h3, rfl⟩, _⟩ := had; exact ite_yes (want_some rfl rfl rfl h3) (lk_rNext (next_len HM.out _) rfl rfl h0 h1 (rNext_any _ _ _ _ hns HM.out _ HST.out) (fun w2 v hm hv => hK w2 v hm hv))
    · obtain ⟨⟨_, h0, rfl⟩, _⟩ := had; exact ite_yes (want_some rfl rfl rfl h0) (lk_move rfl rfl f2 (fun w2 hm => hK w2 _ hm rfl))
    · obtain ⟨⟨_, h0, rfl⟩, ⟨_, h1, rfl⟩, ⟨_, h2, hv2⟩, ⟨_, h3, rfl⟩, ⟨_, h4, hv4⟩, ⟨_, h5, rfl⟩, _⟩ := had; obtain ⟨vo, vc, xs, rfl, hxm, hxs⟩ := hv2; exact ite_yes (want_some rfl rfl rfl h5) (lk_lmoves rfl rfl h0 h1 h2 h3 (lmoves_any _ F T r0 _ hsy _ HST.out _ _ _ hxs hxm (by have := congrArg List.length hxm; rw [List.length_map] at this; have := next_len HM.out st; omega) early HEA.out) (fun w2 hm => hK w2 _ hm rfl))
    · obtain ⟨⟨_, h0, rfl⟩, ⟨_, h1, rfl⟩, _⟩ := had; exact ite_yes (want_some rfl rfl rfl h1) (lk_notB rfl rfl h0 (fun w2 hm => hK w2 _ hm rfl))
    · obtain ⟨⟨_, h0, rfl⟩, ⟨_, h1, rfl⟩, _⟩ := had; exact ite_yes (want_none rfl) (lk_pickF rfl rfl h0 h1 (fun w2 hm => hK w2 _ hm rfl))
    · obtain ⟨⟨_, h0, rfl⟩, ⟨_, h1, rfl⟩, _⟩ := had; exact ite_yes (want_none rfl) (lk_move rfl rfl h0 (fun w2 hm => hK w2 _ hm rfl))
    · obtain ⟨⟨_, h0, rfl⟩, _⟩ := had; exact ite_yes (want_some rfl rfl rfl h0) (lk_move rfl rfl f8 (fun w2 hm => hK w2 _ hm rfl))
    · obtain ⟨⟨_, h0, rfl⟩, _⟩ := had; exact ite_yes (want_some rfl rfl rfl h0) (lk_move rfl rfl f1 (fun w2 hm => hK w2 _ hm rfl))
    · obtain ⟨⟨_, h0, rfl⟩, ⟨_, h1, rfl⟩, ⟨_, h2, rfl⟩, ⟨_, h3, rfl⟩, _⟩ := had; obtain ⟨f, r, ⟨hmt, hen, _⟩, hc⟩ := (hsy.does _ (KeepF.refl _ _)).lk; exact ite_yes (want_some rfl rfl rfl h3) (lk_lookM hmt hen rfl rfl h0 h1 (hc _ HST.out) (fun w2 hm => hK w2 _ hm rfl))
    · obtain ⟨⟨_, h0, rfl⟩, _⟩ := had; exact ite_yes (want_some rfl rfl rfl h0) (lk_loadNet rfl rfl f3 hbx (fun w2 hm => hK w2 _ hm rfl))
    · obtain ⟨⟨_, h0, rfl⟩, _⟩ := had; exact ite_yes (want_some rfl rfl rfl h0) (lk_move rfl rfl f1 (fun w2 hm => hK w2 _ hm rfl))
    · obtain ⟨⟨_, h0, rfl⟩, ⟨_, h1, rfl⟩, ⟨_, h2, rfl⟩, ⟨_, h3, rfl⟩, _⟩ := had; exact ite_yes (want_some rfl rfl rfl h3) (lk_rLookM rfl rfl h0 h1 (rLook_any _ _ _ _ hns HL.out _ HST.out) (fun w2 hm => hK w2 _ hm rfl))
    · obtain ⟨⟨_, h0, rfl⟩, ⟨_, h1, rfl⟩, ⟨_, h2, rfl⟩, _⟩ := had; exact ite_yes (want_some rfl rfl rfl h2) (lk_neqSight rfl rfl h0 h1 (fun w2 hm => hK w2 _ hm rfl))
    · obtain ⟨⟨_, h0, rfl⟩, ⟨_, h1, rfl⟩, _⟩ := had; exact ite_yes (want_none rfl) (lk_pickF rfl rfl h0 h1 (fun w2 hm => hK w2 _ hm rfl))
  case post =>
    intro a w8 hn8 hdf hsz hfr htv
    obtain ⟨_, t8, vo, vc, xs, rfl, _, _⟩ := htv 8 _ 50 rfl rfl
    have htm := fill_eqN (vals := fun q => ([.iface T r0, .string ⟨#[0]⟩, .bool false, .bool false, .iface T r0, .string st, .agg #[.slice ao ns.length cap], .string st, .slice vo xs.length vc, .int .i64 early, .bool true, .bool false, .bool false, .bool false, .iface T r0, .string st, sval ((graphSem ns).look st), .agg #[.slice ao ns.length cap], .string st, sval ((graphSem ns).look st), .bool false, .bool false] : List Value).getD q undef) (by kernel_rfl) hfr (fun q p d hq hd => by
      have hq' : q < 22 := (Array.getElem?_eq_some_iff.1 hq).1
      obtain ⟨v, h, hv⟩ := htv q p d hq hd
      have : q = 0 ∨ q = 1 ∨ q = 2 ∨ q = 3 ∨ q = 4 ∨ q = 5 ∨ q = 6 ∨ q = 7 ∨ q = 8 ∨ q = 9 ∨ q = 10 ∨ q = 11 ∨ q = 12 ∨ q = 13 ∨ q = 14 ∨ q = 15 ∨ q = 16 ∨ q = 17 ∨ q = 18 ∨ q = 19 ∨ q = 20 ∨ q = 21 := by omega
      rcases this with rfl | rfl | rfl | rfl | rfl | rfl | rfl | rfl | rfl | rfl | rfl | rfl | rfl | rfl | rfl | rfl | rfl | rfl | rfl | rfl | rfl | rfl <;> cases hq <;> cases hd <;> first | exact t8 | exact h.trans (congrArg some hv))
    refine hKC _ _ ?_
    rw [act_eq' htm hdf]
    have HN8 := hid hn8
    clear htm hdf hsz hfr htv t8 hKC hn8
    simp only [fill, List.getD_cons_succ, List.getD_cons_zero, List.setIfInBounds_toArray, List.set_cons_succ, List.set_cons_zero]
    have HSYN : Hid (SysAt F w8 T r0 (graphSem ns)) := HSYS.out.nu HN8.out
    have HNW8 : Hid (Nu w w8) := mv0 HNW7.out HN8.out
    have HB8 : Hid (w8.cell? ⟨w.heap.size, 0, none⟩ = some (.slice ao ns.length cap)) := cell_mv HN8.out d1 id
    clear d1 HSYS HN8 HNW7
    go_wp2
    go_loopw [11] (fun iv wr => ∃ (i : Nat), i ≤ ns.length ∧ iv = .int .i64 (i : Int) ∧ Hid (Nu w8 wr)) (fun iv _ => ns.length - (intOf iv).toNat)
    case atStart => exact ⟨0, Nat.zero_le _, rfl, Mv.refl _ _⟩
    case round =>
      obtain ⟨i, hi, rfl, HNR⟩ := hrel
      have d1 := cell_mv HNR.out HB8.out id
      rcases Nat.lt_or_ge i ns.length with hlt | hge
      case inr =>
        have hge' : ¬ (i : Int) < (ns.length : Int) := by omega
        have hgd : decide ((i : Int) < (ns.length : Int)) = false := decide_eq_false hge'
        go_wp2_with fail
        refine (known_any HCH.out wr).mono ?_
        rintro e wz ⟨rfl, hnz⟩
        have HMZ : Hid (Nu w wz) := mv0 HNW8.out (mv0 HNR.out hnz)
        clear hnz
        go_wp2
        go_ret
        exact ⟨rfl, HMZ.out⟩
      have hlt' : (i : Int) < (ns.length : Int) := by omega
      have HLT := hid hlt
      rcases Nat.lt_or_ge i 30 with h30 | h30
      case inr =>
        have h30' : ¬ (i : Int) < 30 := by omega
        have hgd : decide ((i : Int) < 30) = false := decide_eq_false h30'
        go_wp2_with fail
        refine (known_any HCH.out wr).mono ?_
        rintro e wz ⟨rfl, hnz⟩
        have HMZ : Hid (Nu w wz) := mv0 HNW8.out (mv0 HNR.out hnz)
        clear hnz
        go_wp2
        go_ret
        exact ⟨rfl, HMZ.out⟩
      have h30' : (i : Int) < 30 := by omega
      have HSTI : Hid (Short (nst i)) := by
        have := encU_short i (by omega)
        show (nst i).size ≤ _
        omega
      have HNP : Hid (Nu wr (wr.alloc (.cells #[.int .i64 (i : Int)] 3))) := Mv.alloc _ _ _
      have HBP : Hid ((wr.alloc (.cells #[.int .i64 (i : Int)] 3)).cell? ⟨wr.heap.size, 0, none⟩ = some (.int .i64 (i : Int))) := cell_blk (box_new wr _ _) 0
      clear hlt h30
      go_upto_region 17 with (go_at_call 13; refine (rBytes_any _ _ _ HBP.out (by omega)).mono ?_; rintro e wq ⟨rfl, hnq⟩; have HNB := hid hnq; clear hnq)
      replace d1 := cell_mv (mv0 HNP.out HNB.out) d1 id
      have HNQR : Hid (Nu w8 wq) := mv0 HNR.out (mv0 HNP.out HNB.out)
      have HNQ : Hid (Nu w wq) := mv0 HNW8.out HNQR.out
      have HSYS : Hid (SysAt F wq T r0 (graphSem ns)) := HSYN.out.nu HNQR.out
      clear HNB HNP HBP hlt' h30'
      rename_i KC hKC
      refine wp_lookR (RMB T r0 ⟨#[0]⟩ (nst i) (.slice ao ns.length cap) early ((graphSem ns).next (nst i)) ((graphSem ns).look (nst i))) RMB.nu (by kernel_rfl) (by kernel_rfl) ?step ?post
      case step =>
        intro q o d a w' ho hd hn hfr had K hK
        have hq : q < 17 := (Array.getElem?_eq_some_iff.1 ho).1
        have f2 := hfr 2 (by kernel_rfl)
        have f3 := hfr 3 (by kernel_rfl)
        have f8 := hfr 8 (by kernel_rfl)
        have f12 := hfr 12 (by kernel_rfl)
        have hsy := HSYS.out.nu hn
        have hns := HNS.out.below (mv0 HNQ.out hn).nu_below (mv0 HNQ.out hn).size
        have hbx := cell_mv hn d1 id
        have : q = 0 ∨ q = 1 ∨ q = 2 ∨ q = 3 ∨ q = 4 ∨ q = 5 ∨ q = 6 ∨ q = 7 ∨ q = 8 ∨ q = 9 ∨ q = 10 ∨ q = 11 ∨ q = 12 ∨ q = 13 ∨ q = 14 ∨ q = 15 ∨ q = 16 := by omega
        rcases this with rfl | rfl | rfl | rfl | rfl | rfl | rfl | rfl | rfl | rfl | rfl | rfl | rfl | rfl | rfl | rfl | rfl <;> cases ho <;> cases hd
        · exact ite_yes (want_none rfl) (lk_move rfl rfl f8 (fun w2 hm => hK w2 _ hm rfl))
        · exact ite_yes (want_none rfl) (lk_move rfl rfl f12 (fun w2 hm => hK w2 _ hm rfl))
        · exact ite_yes (want_none rfl) (lk_loadNet rfl rfl f3 hbx (fun w2 hm => hK w2 _ hm rfl))
        · exact ite_yes (want_none rfl) (lk_move rfl rfl f12 (fun w2 hm => hK w2 _ hm rfl))
        · obtain ⟨⟨_, h0, rfl⟩, ⟨_, h1, rfl⟩, _⟩ := had; exact ite_yes (want_none rfl) (lk_rNext (next_len HM.out _) rfl rfl h0 h1 (rNext_any _ _ _ _ hns HM.out _ HSTI.out) (fun w2 v hm hv => hK w2 v hm hv))
        · exact ite_yes (want_none rfl) (lk_move rfl rfl f2 (fun w2 hm => hK w2 _ hm rfl))
        · obtain ⟨⟨_, h0, rfl⟩, ⟨_, h1, rfl⟩, ⟨_, h2, hv2⟩, ⟨_, h3, rfl⟩, ⟨_, h4, hv4⟩, _⟩ := had; obtain ⟨vo, vc, xs, rfl, hxm, hxs⟩ := hv2; exact ite_yes (want_none rfl) (lk_lmoves rfl rfl h0 h1 h2 h3 (lmoves_any _ F T r0 _ hsy _ HSTI.out _ _ _ hxs hxm (by have := congrArg List.length hxm; rw [List.length_map] at this; have := next_len HM.out (nst i); omega) early HEA.out) (fun w2 hm => hK w2 _ hm rfl))
        · obtain ⟨⟨_, h0, rfl⟩, _⟩ := had; exact ite_yes (want_none rfl) (lk_notB rfl rfl h0 (fun w2 hm => hK w2 _ hm rfl))
        · obtain ⟨⟨_, h0, rfl⟩, ⟨_, h1, rfl⟩, _⟩ := had; exact ite_yes (want_none rfl) (lk_move rfl rfl h0 (fun w2 hm => hK w2 _ hm rfl))
        · obtain ⟨⟨_, h0, rfl⟩, _⟩ := had; exact ite_yes (want_some rfl rfl rfl h0) (lk_move rfl rfl f8 (fun w2 hm => hK w2 _ hm rfl))
        · obtain ⟨⟨_, h0, rfl⟩, _⟩ := had; exact ite_yes (want_some rfl rfl rfl h0) (lk_move rfl rfl f12 (fun w2 hm => hK w2 _ hm rfl))
        · obtain ⟨⟨_, h0, rfl⟩, ⟨_, h1, rfl⟩, ⟨_, h2, rfl⟩, ⟨_, h3, rfl⟩, _⟩ := had; obtain ⟨f, r, ⟨hmt, hen, _⟩, hc⟩ := (hsy.does _ (KeepF.refl _ _)).lk; exact ite_yes (want_some rfl rfl rfl h3) (lk_lookM hmt hen rfl rfl h0 h1 (hc _ HSTI.out) (fun w2 hm => hK w2 _ hm rfl))
        · obtain ⟨⟨_, h0, rfl⟩, _⟩ := had; exact ite_yes (want_some rfl rfl rfl h0) (lk_loadNet rfl rfl f3 hbx (fun w2 hm => hK w2 _ hm rfl))
        · obtain ⟨⟨_, h0, rfl⟩, _⟩ := had; exact ite_yes (want_some rfl rfl rfl h0) (lk_move rfl rfl f12 (fun w2 hm => hK w2 _ hm rfl))
        · obtain ⟨⟨_, h0, rfl⟩, ⟨_, h1, rfl⟩, ⟨_, h2, rfl⟩, ⟨_, h3, rfl⟩, _⟩ := had; exact ite_yes (want_some rfl rfl rfl h3) (lk_rLookM rfl rfl h0 h1 (rLook_any _ _ _ _ hns HL.out _ HSTI.out) (fun w2 hm => hK w2 _ hm rfl))
        · obtain ⟨⟨_, h0, rfl⟩, ⟨_, h1, rfl⟩, ⟨_, h2, rfl⟩, _⟩ := had; exact ite_yes (want_some rfl rfl rfl h2) (lk_neqSight rfl rfl h0 h1 (fun w2 hm => hK w2 _ hm rfl))
        · obtain ⟨⟨_, h0, rfl⟩, ⟨_, h1, rfl⟩, _⟩ := had; exact ite_yes (want_none rfl) (lk_pickF rfl rfl h0 h1 (fun w2 hm => hK w2 _ hm rfl))
      case post =>
        intro a w8_1 hn8 hdf hsz hfr htv
        obtain ⟨_, t8, vo, vc, xs, rfl, _, _⟩ := htv 4 _ 82 rfl rfl
        have htm := fill_eqN (vals := fun q => ([.iface T r0, .string (nst i), .agg #[.slice ao ns.length cap], .string (nst i), .slice vo xs.length vc, .int .i64 early, .bool true, .bool false, .bool false, .iface T r0, .string (nst i), sval ((graphSem ns).look (nst i)), .agg #[.slice ao ns.length cap], .string (nst i), sval ((graphSem ns).look (nst i)), .bool false, .bool false] : List Value).getD q undef) (by kernel_rfl) hfr (fun q p d hq hd => by
          have hq' : q < 17 := (Array.getElem?_eq_some_iff.1 hq).1
          obtain ⟨v, h, hv⟩ := htv q p d hq hd
          have : q = 0 ∨ q = 1 ∨ q = 2 ∨ q = 3 ∨ q = 4 ∨ q = 5 ∨ q = 6 ∨ q = 7 ∨ q = 8 ∨ q = 9 ∨ q = 10 ∨ q = 11 ∨ q = 12 ∨ q = 13 ∨ q = 14 ∨ q = 15 ∨ q = 16 := by omega
          rcases this with rfl | rfl | rfl | rfl | rfl | rfl | rfl | rfl | rfl | rfl | rfl | rfl | rfl | rfl | rfl | rfl | rfl <;> cases hq <;> cases hd <;> first | exact t8 | exact h.trans (congrArg some hv))
        refine hKC _ _ ?_
        rw [act_eq' htm hdf]
        have HN8 := hid hn8
        clear htm hdf hsz hfr htv t8 hKC hn8
        simp only [fill, List.getD_cons_succ, List.getD_cons_zero, List.setIfInBounds_toArray, List.set_cons_succ, List.set_cons_zero]
        have HNF : Hid (Nu w8 w8_1) := mv0 HNQR.out HN8.out
        go_wp2
        go_roundw
        case rel => exact ⟨i + 1, HLT.out, by go_num, HNF⟩
        case measure => have := HLT.out; simp [intOf]; omega

end Go.Proofs.Ytkjalclplfdpmaa
