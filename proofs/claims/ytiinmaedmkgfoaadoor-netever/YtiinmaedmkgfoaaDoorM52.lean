/-
  JEverW2.
-/
import Derived.Test.YtiinmaedmkgfoaaDoorM42
import Derived.Test.YtiinmaedmkgfoaaDoorM43
import Derived.Test.YtiinmaedmkgfoaaDoorM51
/-
  The walk of the statement NetEver, over the contracts of the program's functions.
-/
set_option linter.unusedVariables false
set_option linter.unusedSimpArgs false
namespace Go.Proofs.YtiinmaedmkgfoaaDoor
open Go.RowKit

theorem ints_mem {a b : Nat} (ha : a < 18446744073709551616) (hb : b < 18446744073709551616) (h : Sb a b) : ∀ x ∈ ints (bitsOf a), x ∈ ints (bitsOf b) := fun x hx => by
  obtain ⟨n, hn, rfl⟩ := List.mem_map.1 hx
  exact List.mem_map.2 ⟨n, bitsOf_sub ha hb h n hn, rfl⟩
theorem within_bits (w : World) {ao bo : Option Addr} {cap dap a b : Nat} (h : IntsAt w w.heap.size ao (ints (bitsOf a))) (hu : IntsAt w w.heap.size bo (ints (bitsOf b))) (ha : a < 18446744073709551616) (hb : b < 18446744073709551616) (hs : Sb a b) :
    Calls Tryd.prog 18 #[.slice ao (bitsOf a).length cap, .slice bo (bitsOf b).length dap] w fun e w' => e = .returned (.bool true) ∧ Nu w w' := by
  have := within_any w w.heap.size (Nat.le_refl _) (cap := cap) (dap := dap) _ _ h hu (ints_mem ha hb hs)
  rwa [ints_length, ints_length] at this
theorem look_props {t : Thr} (hm : mayT t = true) {L : List Nat} (h : Okay t L) : (lookS t (txt (encs L))).props = ((seenTo L t.props t.props.length : Nat) : Int) := by
  rw [lookS, h.nums hm]
  exact sawTo_props _ _ _ _

/-- What is known of a move of a state. -/
structure MvK (t : Thr) (L : List Nat) (m : Mov) (p : Nat) (a : TA) (f : Ft) : Prop where
  pl : p < t.procs.length
  eq : ∃ j : Nat, m = ⟨p, j, -1, -1, if a.bad = 0 then txt (encs (behindN t.init.length L p a)) else ⟨#[]⟩, a.bad, ints (bitsOf f.r), ints (bitsOf f.w), f.t⟩
  ta : taB (t.procs.getD p []).length t.init.length a = true
  sm : f.Small
  he : f.Le (hereT t p (L.getD (t.init.length + p) 0))
  hv : (hereT t p (L.getD (t.init.length + p) 0)).Le (everT t p (L.getD (t.init.length + p) 0))
  tu : Sb (seenTo L t.props t.props.length ^^^ seenTo (behindN t.init.length L p a) t.props t.props.length) f.t
  le : a.bad = 0 → ∀ q, q < t.procs.length → (everT t q ((behindN t.init.length L p a).getD (t.init.length + q) 0)).Le (everT t q (L.getD (t.init.length + q) 0))
theorem mvk_of {t : Thr} (hm : mayT t = true) {L : List Nat} (h : Okay t L) {m : Mov} (hmem : m ∈ (threadSem t).next (txt (encs L))) : ∃ p a f, MvK t L m p a f := by
  rw [tnext_some (h.nums hm)] at hmem
  obtain ⟨p, k, hp, hk, rfl⟩ := procsTo_mem hmem
  obtain ⟨hi16, hp8, hp60, _, hpr, _⟩ := mayT_parts hm
  have hlm : t.procs.getD p [] ∈ t.procs := List.mem_of_getElem? (proc_get hp)
  obtain ⟨_, hl60, hxa⟩ := procB_parts (hpr _ hlm)
  have hnd := h.node hp
  have hx : (t.procs.getD p [])[L.getD (t.init.length + p) 0]? = some (nodeT t L p) := by
    rw [nodeT, List.getD_eq_getElem?_getD (l := t.procs.getD p []), List.getElem?_eq_getElem hnd]
    rfl
  have hxm := List.mem_of_getElem? hx
  have ha : (nodeT t L p).arcs[k]? = some (arcT t L p k) := by
    rw [arcT, List.getD_eq_getElem?_getD, List.getElem?_eq_getElem hk]
    rfl
  have hta := (hxa _ hxm).2 _ (List.mem_of_getElem? ha)
  have hxx : ∀ x ∈ t.procs.getD p [], ∀ a ∈ x.arcs, 0 ≤ a.to ∧ a.to < ((t.procs.getD p []).length : Int) := fun x hx a ha => (taB_parts ((hxa x hx).2 a ha)).2.2.2.1
  refine ⟨p, arcT t L p k, _, hp, ⟨k, rfl⟩, hta, foot_small hp60 _ _ (by omega) hta, arc_here hx ha, here_ever hl60 hxx hnd, turns_seen hm hta _ _, fun hb q hq => ?_⟩
  rw [behind_node h hp hta hq]
  split
  · rename_i hqp
    subst hqp
    have hto := (hxx _ hxm _ (List.mem_of_getElem? ha))
    exact ever_mono hl60 hxx hnd (by omega) (leads_arc hx ha hb)
  · exact Ft.Le.refl _

set_option maxHeartbeats 32000000 in
set_option maxRecDepth 40000 in
theorem NetEver_walk (w : World) (v0 v1 v2 : Value) (t : Thr) (ht : ThrAt w w.heap.size v0 v1 v2 t) {wo : Option Addr} {wcap : Nat} (ws : List Int) (hws : IntsAt w w.heap.size wo ws) (hI : ∀ x ∈ ws, I64 x) (hTab : TabAt 0 Lib.deBruijn64tab w) :
    Calls Tryd.prog 5 #[.agg #[v0, v1, v2], .slice wo ws.length wcap] w fun e w' => e = .returned (.bool true) ∧ Nu w w' := by
  have HTH := hid ht
  have HWS := hid hws
  have HI := hid hI
  have HTB := hid hTab
  have hwl := hws.lim
  obtain ⟨⟨ia, ic, rfl, hi⟩, ⟨pa, pc, rfl, hpl, hp⟩, ⟨ra, rc, rfl, hrl, hr⟩⟩ := ht
  have HN1 : Hid (Nu w (w.alloc (.cells #[.slice ia t.init.length ic, .slice pa t.procs.length pc, .slice ra t.props.length rc] 26))) := Mv.alloc _ _ _
  have HB1 := hid (heap_alloc_new w (.cells #[.slice ia t.init.length ic, .slice pa t.procs.length pc, .slice ra t.props.length rc] 26))
  clear hws hI hTab hi hpl hp hrl hr
  go_enter Tryd.func5, Tryd.ntmps5
  go_upto_region 1 with fail
  generalize w.alloc (.cells #[.slice ia t.init.length ic, .slice pa t.procs.length pc, .slice ra t.props.length rc] 26) = w1 at *
  obtain ⟨b0, b1, b2⟩ := cells3 HB1.out
  go_wp2_with fail
  refine (OfThreads_any w1 _ _ _ t (HTH.out.nu HN1.out) (tab_nu HTB.out HN1.out)).mono ?_
  rintro e w2 ⟨hn2, ⟨hno, rfl⟩ | ⟨hyes, tb, rfl, hmd⟩⟩
  · have HN2 := hid (mv0 HN1.out hn2)
    clear hn2 hno b0 b1 b2
    go_wp2_with fail
    refine (known_any nCons w2).mono ?_
    rintro e wz ⟨rfl, hnz⟩
    have HMZ : Hid (Nu w wz) := mv0 (HN2.out) hnz
    clear hnz
    go_wp2
    go_ret
    exact ⟨rfl, HMZ.out⟩
  have HM := hid hyes
  have HN2 := hid (mv0 HN1.out hn2)
  have HS := hid (hmd.evs hyes (tab_nu HTB.out HN1.out) hn2)
  have b1' := cell_mv hn2 b1 id
  have HB2 := hid b1'
  have hm8 : (t.procs.length : Int) ≤ 8 := by have := (mayT_parts hyes).2.1; omega
  clear hn2 hyes hmd b0 b1 b2 b1'
  generalize (Value.pointer (some (⟨tb, 0, none⟩ : Addr))) = r0 at *
  have HNB : Hid (Nu w2 w2) := Mv.refl _ _
  go_upto_region 6 with fail
  rename_i KC6 hKC6
  refine wp_region ?_
  show wpOps _ _ _ [0, 1, 2] _ _
  have hc : Nu w2 w2 := Mv.refl _ _
  refine opsP_step rfl rfl (lk_move rfl rfl rfl (fun u6_0 k0 => ?_))
  replace hc := mv0 hc k0
  clear k0
  simp only [List.setIfInBounds_toArray, List.set_cons_succ, List.set_cons_zero, List.getElem_toArray, List.getElem_cons_succ, List.getElem_cons_zero]
  obtain ⟨F6, hs6⟩ := HS.out.sys _ (mv0 HNB.out hc)
  obtain ⟨fid, rv, ⟨hmt, hen, _⟩, hcB⟩ := (hs6.does _ (KeepF.refl _ _)).bg
  refine opsP_step rfl rfl (lk_beginV hmt hen rfl rfl rfl hcB (fun u6_1 k1 => ?_))
  replace hc := mv0 hc k1
  clear k1
  simp only [List.setIfInBounds_toArray, List.set_cons_succ, List.set_cons_zero, List.getElem_toArray, List.getElem_cons_succ, List.getElem_cons_zero]
  refine opsP_step rfl rfl (lk_assign rfl rfl rfl (fun u6_2 k2 => ?_))
  replace hc := mv0 hc k2
  clear k2
  simp only [List.setIfInBounds_toArray, List.set_cons_succ, List.set_cons_zero, List.getElem_toArray, List.getElem_cons_succ, List.getElem_cons_zero]
  show Exit.then _ _ .normal _ _
  refine hKC6 _ _ ?_
  clear hKC6
  have HN6 := hid hc
  have HO6 : Hid (Okay t (firstN t)) := first_okay HM.out
  clear hc HNB
  show Code.wp _ _ _ _ _
  have HBG : (threadSem t).begin = txt (encs (firstN t)) := rfl
  rw [HBG]
  clear HBG
  generalize firstN t = L0 at *
  generalize u6_2 = w6 at *
  go_wp2
  go_loopw [7, 8] (fun av iv wr => ∃ (i : Nat) (L : List Nat), i ≤ ws.length ∧ av = .string (txt (encs L)) ∧ iv = .int .i64 (i : Int) ∧ Hid (Okay t L) ∧ Hid (Nu w2 wr)) (fun _ iv _ => ws.length - (intOf iv).toNat)
  case atStart => exact ⟨0, L0, Nat.zero_le _, rfl, rfl, HO6.out, HN6.out⟩
  case round =>
    rename World => V
    obtain ⟨i, L, hil, rfl, rfl, HOK, HNV⟩ := hrel
    clear HO6 HN6
    rcases Nat.lt_or_ge i ws.length with hlt | hge
    case inr =>
      have hg1 : ¬ (i : Int) < (ws.length : Int) := by omega
      go_wp2_with fail
      refine (known_any nCons V).mono ?_
      rintro e wz ⟨rfl, hnz⟩
      have HMZ : Hid (Nu w wz) := mv0 (mv0 HN2.out HNV.out) hnz
      clear hnz
      go_wp2
      go_ret
      exact ⟨rfl, HMZ.out⟩
    have hl1 : (i : Int) < (ws.length : Int) := by omega
    by_cases h20 : (i : Int) < 20
    case neg =>
      go_wp2_with fail
      refine (known_any nCons V).mono ?_
      rintro e wz ⟨rfl, hnz⟩
      have HMZ : Hid (Nu w wz) := mv0 (mv0 HN2.out HNV.out) hnz
      clear hnz
      go_wp2
      go_ret
      exact ⟨rfl, HMZ.out⟩
    have HSH := hid (encs_short HM.out HOK.out)
    have HALL : Hid (∃ F, SysAt F V 66 r0 (threadSem t)) := HS.out.sys V HNV.out
    obtain ⟨F, hsF⟩ := HALL.out
    have HAL := hid (fun (_ : Unit) => all_any V F 66 r0 (threadSem t) (txt (encs L)) 10000 hsF HSH.out (by omega) (by omega))
    have HLT := hid hlt
    clear HALL hsF hlt hil
    go_upto_region 10 with fail
    go_upto_region 11 with (go_at_call 17; refine (HAL.out ()).mono ?_; rintro e w3 ⟨hn3, vo, vc, xs, rfl, hxm, hrow, hown⟩; have HN3 := hid (mv0 HNV.out hn3); have HXM := hid hxm; have HRW := hid hrow; have HXO := hid hown; clear hn3 hxm hrow hown)
    clear HAL
    by_cases hx0 : xs.length = 0
    case pos =>
      have hx0' : (xs.length : Int) = 0 := by omega
      go_wp2_with fail
      refine (known_any nCons w3).mono ?_
      rintro e wz ⟨rfl, hnz⟩
      have HMZ : Hid (Nu w wz) := mv0 (mv0 HN2.out HN3.out) hnz
      clear hnz
      go_wp2
      go_ret
      exact ⟨rfl, HMZ.out⟩
    have hx0' : ¬ (xs.length : Int) = 0 := by omega
    have hxp : (0 : Int) < (xs.length : Int) := by omega
    have hxl : (xs.length : Int) ≤ 10000 := by
      have := congrArg List.length HXM.out
      rw [List.length_map, List.length_take] at this
      have h2 : (10000 : Int).toNat = 10000 := rfl
      omega
    obtain ⟨g, rfl⟩ : ∃ g, vo = some ⟨g, 0, none⟩ := by
      rcases HRW.out.2 with ⟨_, hn⟩ | ⟨g, _, _, hv, _⟩
      · omega
      · simp only [Value.slice.injEq] at hv
        exact ⟨g, hv.1⟩
    have hwi := HI.out _ (List.getElem_mem HLT.out)
    rcases (HWS.out.below (mv0 HN2.out HN3.out).nu_below (mv0 HN2.out HN3.out).size).row with h0 | ⟨wb, wof, rfl, hwb, hwc⟩
    · have := HLT.out; omega
    have hw0 := hwc i HLT.out
    generalize ws[i]'HLT.out = wi at *
    have HWI := hid hwi
    have HXP := hid (And.intro hxp hxl)
    clear hwc hwi hx0 hxl hxp hwb
    go_upto_region 12 with fail
    rename_i KC12 hKC12
    refine wp_region ?_
    show wpOps _ _ _ [0, 1, 2, 3, 4, 5, 6, 7, 8, 9, 10, 11] _ _
    have hc : Nu w3 w3 := Mv.refl _ _
    clear hx0'
    refine opsP_step rfl rfl (lk_move rfl rfl rfl (fun u12_0 k0 => ?_))
    replace hc := mv0 hc k0
    clear k0
    simp only [List.setIfInBounds_toArray, List.set_cons_succ, List.set_cons_zero, List.getElem_toArray, List.getElem_cons_succ, List.getElem_cons_zero]
    refine opsP_step rfl rfl (lk_move rfl rfl rfl (fun u12_1 k1 => ?_))
    replace hc := mv0 hc k1
    clear k1
    simp only [List.setIfInBounds_toArray, List.set_cons_succ, List.set_cons_zero, List.getElem_toArray, List.getElem_cons_succ, List.getElem_cons_zero]
    refine opsP_step rfl rfl (lk_move rfl rfl rfl (fun u12_2 k2 => ?_))
    replace hc := mv0 hc k2
    clear k2
    simp only [List.setIfInBounds_toArray, List.set_cons_succ, List.set_cons_zero, List.getElem_toArray, List.getElem_cons_succ, List.getElem_cons_zero]
    refine opsP_step rfl rfl (lk_idxIo HLT.out rfl rfl rfl rfl (fun u12_3 k3 => ?_))
    replace hc := mv0 hc k3
    clear k3
    simp only [List.setIfInBounds_toArray, List.set_cons_succ, List.set_cons_zero, List.getElem_toArray, List.getElem_cons_succ, List.getElem_cons_zero]
    refine opsP_step rfl rfl (lk_loadN rfl rfl rfl (cell_mv hc hw0 id) (fun u12_4 k4 => ?_))
    replace hc := mv0 hc k4
    clear k4
    simp only [List.setIfInBounds_toArray, List.set_cons_succ, List.set_cons_zero, List.getElem_toArray, List.getElem_cons_succ, List.getElem_cons_zero]
    refine opsP_step rfl rfl (lk_move rfl rfl rfl (fun u12_5 k5 => ?_))
    replace hc := mv0 hc k5
    clear k5
    simp only [List.setIfInBounds_toArray, List.set_cons_succ, List.set_cons_zero, List.getElem_toArray, List.getElem_cons_succ, List.getElem_cons_zero]
    refine opsP_step rfl rfl (lk_lenMv rfl rfl rfl (fun u12_6 k6 => ?_))
    replace hc := mv0 hc k6
    clear k6
    simp only [List.setIfInBounds_toArray, List.set_cons_succ, List.set_cons_zero, List.getElem_toArray, List.getElem_cons_succ, List.getElem_cons_zero]
    refine opsP_step rfl rfl (lk_pick13 HWI.out HXP.out.1 (by have := HXP.out.2; omega) rfl rfl rfl rfl (fun k hk => ?_))
    simp only [List.setIfInBounds_toArray, List.set_cons_succ, List.set_cons_zero, List.getElem_toArray, List.getElem_cons_succ, List.getElem_cons_zero]
    have hkx : k < xs.length := by omega
    have hxa := (xrow_at HRW.out (g := g) rfl k hkx).mv hc id
    have hxo := HXO.out _ (List.getElem_mem hkx)
    have hxmem : (xs[k]'hkx).m ∈ (threadSem t).next (txt (encs L)) := by
      have : (xs[k]'hkx).m ∈ xs.map X.m := List.mem_map.2 ⟨_, List.getElem_mem hkx, rfl⟩
      rw [HXM.out] at this
      exact List.mem_of_mem_take this
    obtain ⟨p, a, f, hmk⟩ := mvk_of HM.out HOK.out hxmem
    have HMK := hid hmk
    have HKX := hid hkx
    generalize xs[k]'hkx = y at *
    refine opsP_step rfl rfl (lk_idxMv HKX.out rfl rfl rfl rfl (fun u12_8 k8 => ?_))
    replace hc := mv0 hc k8
    replace hxa := hxa.mv k8 id
    clear k8
    simp only [List.setIfInBounds_toArray, List.set_cons_succ, List.set_cons_zero, List.getElem_toArray, List.getElem_cons_succ, List.getElem_cons_zero]
    refine opsP_step rfl rfl (lk_loadMv hxa rfl rfl rfl (fun u12_9 k9 => ?_))
    replace hc := mv0 hc k9
    clear k9
    simp only [List.setIfInBounds_toArray, List.set_cons_succ, List.set_cons_zero, List.getElem_toArray, List.getElem_cons_succ, List.getElem_cons_zero]
    refine opsP_step rfl rfl (lk_allocM rfl rfl ?_)
    simp only [List.setIfInBounds_toArray, List.set_cons_succ, List.set_cons_zero, List.getElem_toArray, List.getElem_cons_succ, List.getElem_cons_zero]
    have ha := Mv.alloc (fun _ => False) u12_9 (.cells #[.int .i64 0, .int .i64 0, .int .i64 0, .int .i64 0, .string ⟨#[]⟩, .int .i64 0, .slice none 0 0, .slice none 0 0, .int .u64 0] 41)
    have hb := heap_alloc_new u12_9 (.cells #[.int .i64 0, .int .i64 0, .int .i64 0, .int .i64 0, .string ⟨#[]⟩, .int .i64 0, .slice none 0 0, .slice none 0 0, .int .u64 0] 41)
    generalize u12_9.alloc (.cells #[.int .i64 0, .int .i64 0, .int .i64 0, .int .i64 0, .string ⟨#[]⟩, .int .i64 0, .slice none 0 0, .slice none 0 0, .int .u64 0] 41) = u12_10 at *
    refine opsP_step rfl rfl (lk_storeMv rfl rfl rfl rfl hb (fun w4 hb2 hm2 => ?_))
    have hnn : Nu u12_9 w4 := ha.trans hm2 (fun x hx => .inr (by have : x = u12_9.heap.size := hx; omega))
    replace hc := mv0 hc hnn
    show Exit.then _ _ .normal _ _
    refine hKC12 _ _ ?_
    clear hKC12
    obtain ⟨ym, yra, yrc, ywa, ywc⟩ := y
    obtain ⟨j, hje⟩ := HMK.out.eq
    simp only at hje hb2 hxo
    subst hje
    obtain ⟨to, hto⟩ : ∃ to, (if a.bad = 0 then txt (encs (behindN t.init.length L p a)) else ⟨#[]⟩) = to := ⟨_, rfl⟩
    simp only [ints_length] at hb2
    rw [hto] at hb2
    have HTO := hid hto
    have HB4 := hid hb2
    have HXI : Hid (IntsAt w4 w4.heap.size yra (ints (bitsOf f.r)) ∧ IntsAt w4 w4.heap.size ywa (ints (bitsOf f.w))) := ⟨hxo.r.at.below hc.nu_below hc.size, hxo.w.at.below hc.nu_below hc.size⟩
    generalize u12_9.heap.size = mb at *
    have HNB : Hid (Nu w2 w4) := mv0 HN3.out hc
    obtain ⟨m0, m1, m2, m3, m4, m5, m6, m7, m8⟩ := cells9 HB4.out
    clear hc ha hb hb2 hm2 hnn hxa hxo hmk hto hxmem hkx hk hw0 HXM HRW HXO HKX m1 m2 m3
    go_upto_region 13 with fail
    rename_i KC13 hKC13
    refine wp_region ?_
    show wpOps _ _ _ [0, 1, 2, 3, 4, 5, 6] _ _
    have hc : Nu w4 w4 := Mv.refl _ _
    refine opsP_step rfl rfl (lk_move rfl rfl rfl (fun u13_0 k0 => ?_))
    replace hc := mv0 hc k0
    clear k0
    simp only [List.setIfInBounds_toArray, List.set_cons_succ, List.set_cons_zero, List.getElem_toArray, List.getElem_cons_succ, List.getElem_cons_zero]
    refine opsP_step rfl rfl (lk_move rfl rfl rfl (fun u13_1 k1 => ?_))
    replace hc := mv0 hc k1
    clear k1
    simp only [List.setIfInBounds_toArray, List.set_cons_succ, List.set_cons_zero, List.getElem_toArray, List.getElem_cons_succ, List.getElem_cons_zero]
    refine opsP_step rfl rfl (lk_fieldMv0 rfl rfl rfl (fun u13_2 k2 => ?_))
    replace hc := mv0 hc k2
    clear k2
    simp only [List.setIfInBounds_toArray, List.set_cons_succ, List.set_cons_zero, List.getElem_toArray, List.getElem_cons_succ, List.getElem_cons_zero]
    refine opsP_step rfl rfl (lk_loadN rfl rfl rfl (cell_mv hc m0 id) (fun u13_3 k3 => ?_))
    replace hc := mv0 hc k3
    clear k3
    simp only [List.setIfInBounds_toArray, List.set_cons_succ, List.set_cons_zero, List.getElem_toArray, List.getElem_cons_succ, List.getElem_cons_zero]
    obtain ⟨fid, rv, ⟨hmt, hen, _⟩, hcE⟩ := HS.out.ever _ (mv0 HNB.out hc)
    refine opsP_step rfl rfl (lk_invEver hmt hen rfl rfl rfl rfl rfl (hcE L p HOK.out HMK.out.pl) (fun e ew hT => ?_))
    obtain ⟨hne, era, erc, ewa, ewc, rfl, hor, how⟩ := hT
    refine ⟨_, rfl, ?_⟩
    simp only [List.setIfInBounds_toArray, List.set_cons_succ, List.set_cons_zero, List.getElem_toArray, List.getElem_cons_succ, List.getElem_cons_zero]
    replace hc := mv0 hc hne
    refine opsP_step rfl rfl (lk_allocFt rfl rfl ?_)
    simp only [List.setIfInBounds_toArray, List.set_cons_succ, List.set_cons_zero, List.getElem_toArray, List.getElem_cons_succ, List.getElem_cons_zero]
    have ha := Mv.alloc (fun _ => False) ew (.cells #[.slice none 0 0, .slice none 0 0, .int .u64 0] 58)
    have hb := heap_alloc_new ew (.cells #[.slice none 0 0, .slice none 0 0, .int .u64 0] 58)
    generalize ew.alloc (.cells #[.slice none 0 0, .slice none 0 0, .int .u64 0] 58) = ew1 at *
    refine opsP_step rfl rfl (lk_storeFt rfl rfl rfl rfl hb (fun ew2 hb2 hm2 => ?_))
    have hnn : Nu ew ew2 := ha.trans hm2 (fun x hx => .inr (by have : x = ew.heap.size := hx; omega))
    replace hc := mv0 hc hnn
    have HeB : Hid (ew2.heap[ew.heap.size]? = some (.cells #[.slice era (bitsOf (everT t p (L.getD (t.init.length + p) 0)).r).length erc, .slice ewa (bitsOf (everT t p (L.getD (t.init.length + p) 0)).w).length ewc, .int .u64 (((everT t p (L.getD (t.init.length + p) 0)).t : Nat) : Int)] 58 (0, 0))) := hb2
    have HeI : Hid (IntsAt ew2 ew2.heap.size era (ints (bitsOf (everT t p (L.getD (t.init.length + p) 0)).r)) ∧ IntsAt ew2 ew2.heap.size ewa (ints (bitsOf (everT t p (L.getD (t.init.length + p) 0)).w))) := ⟨hor.at.below hnn.nu_below hnn.size, how.at.below hnn.nu_below hnn.size⟩
    generalize ew.heap.size = eb at *
    have HNC := hid hc
    clear hc ha hb hb2 hm2 hnn hor how hne hcE hen hmt
    show Exit.then _ _ .normal _ _
    refine hKC13 _ _ ?_
    clear hKC13
    replace m0 := cell_mv HNC.out m0 id
    replace m4 := cell_mv HNC.out m4 id
    replace m5 := cell_mv HNC.out m5 id
    replace m6 := cell_mv HNC.out m6 id
    replace m7 := cell_mv HNC.out m7 id
    replace m8 := cell_mv HNC.out m8 id
    replace HXI : Hid (IntsAt ew2 ew2.heap.size yra (ints (bitsOf f.r)) ∧ IntsAt ew2 ew2.heap.size ywa (ints (bitsOf f.w))) := ⟨HXI.out.1.below HNC.out.nu_below HNC.out.size, HXI.out.2.below HNC.out.nu_below HNC.out.size⟩
    replace HNB : Hid (Nu w2 ew2) := mv0 HNB.out HNC.out
    obtain ⟨e0, e1, e2⟩ := cells3 HeB.out
    clear HNC
    go_upto_region 14 with fail
    rename_i KC14 hKC14
    refine wp_region ?_
    show wpOps _ _ _ [0, 1, 2, 3, 4, 5, 6] _ _
    have hc : Nu ew2 ew2 := Mv.refl _ _
    refine opsP_step rfl rfl (lk_move rfl rfl rfl (fun u14_0 k0 => ?_))
    replace hc := mv0 hc k0
    clear k0
    simp only [List.setIfInBounds_toArray, List.set_cons_succ, List.set_cons_zero, List.getElem_toArray, List.getElem_cons_succ, List.getElem_cons_zero]
    refine opsP_step rfl rfl (lk_move rfl rfl rfl (fun u14_1 k1 => ?_))
    replace hc := mv0 hc k1
    clear k1
    simp only [List.setIfInBounds_toArray, List.set_cons_succ, List.set_cons_zero, List.getElem_toArray, List.getElem_cons_succ, List.getElem_cons_zero]
    refine opsP_step rfl rfl (lk_fieldMv0 rfl rfl rfl (fun u14_2 k2 => ?_))
    replace hc := mv0 hc k2
    clear k2
    simp only [List.setIfInBounds_toArray, List.set_cons_succ, List.set_cons_zero, List.getElem_toArray, List.getElem_cons_succ, List.getElem_cons_zero]
    refine opsP_step rfl rfl (lk_loadN rfl rfl rfl (cell_mv hc m0 id) (fun u14_3 k3 => ?_))
    replace hc := mv0 hc k3
    clear k3
    simp only [List.setIfInBounds_toArray, List.set_cons_succ, List.set_cons_zero, List.getElem_toArray, List.getElem_cons_succ, List.getElem_cons_zero]
    obtain ⟨fid, rv, ⟨hmt, hen, _⟩, hcE⟩ := HS.out.here _ (mv0 HNB.out hc)
    refine opsP_step rfl rfl (lk_invHere hmt hen rfl rfl rfl rfl rfl (hcE L p HOK.out HMK.out.pl) (fun e hw hT => ?_))
    obtain ⟨hnh, hra, hrc, hwa, hwc, rfl, hor, how⟩ := hT
    refine ⟨_, rfl, ?_⟩
    simp only [List.setIfInBounds_toArray, List.set_cons_succ, List.set_cons_zero, List.getElem_toArray, List.getElem_cons_succ, List.getElem_cons_zero]
    replace hc := mv0 hc hnh
    refine opsP_step rfl rfl (lk_allocFt rfl rfl ?_)
    simp only [List.setIfInBounds_toArray, List.set_cons_succ, List.set_cons_zero, List.getElem_toArray, List.getElem_cons_succ, List.getElem_cons_zero]
    have ha := Mv.alloc (fun _ => False) hw (.cells #[.slice none 0 0, .slice none 0 0, .int .u64 0] 58)
    have hb := heap_alloc_new hw (.cells #[.slice none 0 0, .slice none 0 0, .int .u64 0] 58)
    generalize hw.alloc (.cells #[.slice none 0 0, .slice none 0 0, .int .u64 0] 58) = hw1 at *
    refine opsP_step rfl rfl (lk_storeFt rfl rfl rfl rfl hb (fun hw2 hb2 hm2 => ?_))
    have hnn : Nu hw hw2 := ha.trans hm2 (fun x hx => .inr (by have : x = hw.heap.size := hx; omega))
    replace hc := mv0 hc hnn
    have HhB : Hid (hw2.heap[hw.heap.size]? = some (.cells #[.slice hra (bitsOf (hereT t p (L.getD (t.init.length + p) 0)).r).length hrc, .slice hwa (bitsOf (hereT t p (L.getD (t.init.length + p) 0)).w).length hwc, .int .u64 (((hereT t p (L.getD (t.init.length + p) 0)).t : Nat) : Int)] 58 (0, 0))) := hb2
    have HhI : Hid (IntsAt hw2 hw2.heap.size hra (ints (bitsOf (hereT t p (L.getD (t.init.length + p) 0)).r)) ∧ IntsAt hw2 hw2.heap.size hwa (ints (bitsOf (hereT t p (L.getD (t.init.length + p) 0)).w))) := ⟨hor.at.below hnn.nu_below hnn.size, how.at.below hnn.nu_below hnn.size⟩
    generalize hw.heap.size = hb at *
    have HNC := hid hc
    clear hc ha hb hb2 hm2 hnn hor how hnh hcE hen hmt
    show Exit.then _ _ .normal _ _
    refine hKC14 _ _ ?_
    clear hKC14
    replace m0 := cell_mv HNC.out m0 id
    replace m4 := cell_mv HNC.out m4 id
    replace m5 := cell_mv HNC.out m5 id
    replace m6 := cell_mv HNC.out m6 id
    replace m7 := cell_mv HNC.out m7 id
    replace m8 := cell_mv HNC.out m8 id
    replace e0 := cell_mv HNC.out e0 id
    replace e1 := cell_mv HNC.out e1 id
    replace e2 := cell_mv HNC.out e2 id
    replace HXI : Hid (IntsAt hw2 hw2.heap.size yra (ints (bitsOf f.r)) ∧ IntsAt hw2 hw2.heap.size ywa (ints (bitsOf f.w))) := ⟨HXI.out.1.below HNC.out.nu_below HNC.out.size, HXI.out.2.below HNC.out.nu_below HNC.out.size⟩
    replace HeI : Hid (IntsAt hw2 hw2.heap.size era (ints (bitsOf (everT t p (L.getD (t.init.length + p) 0)).r)) ∧ IntsAt hw2 hw2.heap.size ewa (ints (bitsOf (everT t p (L.getD (t.init.length + p) 0)).w))) := ⟨HeI.out.1.below HNC.out.nu_below HNC.out.size, HeI.out.2.below HNC.out.nu_below HNC.out.size⟩
    replace HNB : Hid (Nu w2 hw2) := mv0 HNB.out HNC.out
    obtain ⟨h0, h1, h2⟩ := cells3 HhB.out
    have HSE : Hid (everT t p (L.getD (t.init.length + p) 0)).Small := ever_small HM.out HMK.out.pl (HOK.out.node HMK.out.pl)
    have HSH2 : Hid (hereT t p (L.getD (t.init.length + p) 0)).Small := here_small HM.out HMK.out.pl _
    have HWA := hid (fun (u : World) (hu : Nu hw2 u) => within_bits u (cap := yrc) (dap := hrc) (HXI.out.1.below hu.nu_below hu.size) (HhI.out.1.below hu.nu_below hu.size) HMK.out.sm.1 HSH2.out.1 HMK.out.he.1)
    have HWB := hid (fun (u : World) (hu : Nu hw2 u) => within_bits u (cap := ywc) (dap := hwc) (HXI.out.2.below hu.nu_below hu.size) (HhI.out.2.below hu.nu_below hu.size) HMK.out.sm.2.1 HSH2.out.2.1 HMK.out.he.2.1)
    have HWC := hid (fun (u : World) (hu : Nu hw2 u) => within_bits u (cap := hrc) (dap := erc) (HhI.out.1.below hu.nu_below hu.size) (HeI.out.1.below hu.nu_below hu.size) HSH2.out.1 HSE.out.1 HMK.out.hv.1)
    have HWD := hid (fun (u : World) (hu : Nu hw2 u) => within_bits u (cap := hwc) (dap := ewc) (HhI.out.2.below hu.nu_below hu.size) (HeI.out.2.below hu.nu_below hu.size) HSH2.out.2.1 HSE.out.2.1 HMK.out.hv.2.1)
    have HZA := hid (andNot_sub HMK.out.sm.2.2 HSH2.out.2.2 HMK.out.he.2.2)
    have HZB := hid (andNot_sub HSH2.out.2.2 HSE.out.2.2 HMK.out.hv.2.2)
    clear HNC HeB HhB
    go_upto_region 15 with fail
    rename_i KC15 hKC15
    refine wp_region ?_
    show wpOps _ _ _ [0, 1, 2, 3, 4, 5, 6, 7, 8, 9, 10, 11, 12, 13, 14, 15, 16, 17, 18, 19, 20, 21, 22, 23, 24, 25, 26, 27, 28, 29, 30, 31, 32, 33, 34, 35, 36, 37, 38, 39, 40, 41, 42, 43, 44, 45] _ _
    have hc : Nu hw2 hw2 := Mv.refl _ _
    refine opsP_step rfl rfl (lk_fieldMv6 rfl rfl rfl (fun u15_0 k0 => ?_))
    replace hc := mv0 hc k0
    clear k0
    simp only [List.setIfInBounds_toArray, List.set_cons_succ, List.set_cons_zero, List.getElem_toArray, List.getElem_cons_succ, List.getElem_cons_zero]
    refine opsP_step rfl rfl (lk_loadI rfl rfl rfl (cell_mv hc m6 id) (fun u15_1 k1 => ?_))
    replace hc := mv0 hc k1
    clear k1
    simp only [List.setIfInBounds_toArray, List.set_cons_succ, List.set_cons_zero, List.getElem_toArray, List.getElem_cons_succ, List.getElem_cons_zero]
    refine opsP_step rfl rfl (lk_fieldP0 rfl rfl rfl (fun u15_2 k2 => ?_))
    replace hc := mv0 hc k2
    clear k2
    simp only [List.setIfInBounds_toArray, List.set_cons_succ, List.set_cons_zero, List.getElem_toArray, List.getElem_cons_succ, List.getElem_cons_zero]
    refine opsP_step rfl rfl (lk_loadI rfl rfl rfl (cell_mv hc h0 id) (fun u15_3 k3 => ?_))
    replace hc := mv0 hc k3
    clear k3
    simp only [List.setIfInBounds_toArray, List.set_cons_succ, List.set_cons_zero, List.getElem_toArray, List.getElem_cons_succ, List.getElem_cons_zero]
    refine opsP_step rfl rfl (lk_within rfl rfl rfl rfl (HWA.out _ hc) (fun u15_4 k4 => ?_))
    replace hc := mv0 hc k4
    clear k4
    simp only [List.setIfInBounds_toArray, List.set_cons_succ, List.set_cons_zero, List.getElem_toArray, List.getElem_cons_succ, List.getElem_cons_zero]
    refine opsP_step rfl rfl (lk_not rfl rfl rfl (fun u15_5 k5 => ?_))
    replace hc := mv0 hc k5
    clear k5
    simp only [List.setIfInBounds_toArray, List.set_cons_succ, List.set_cons_zero, List.getElem_toArray, List.getElem_cons_succ, List.getElem_cons_zero]
    refine opsP_step rfl rfl (lk_move rfl rfl rfl (fun u15_6 k6 => ?_))
    replace hc := mv0 hc k6
    clear k6
    simp only [List.setIfInBounds_toArray, List.set_cons_succ, List.set_cons_zero, List.getElem_toArray, List.getElem_cons_succ, List.getElem_cons_zero]
    refine opsP_stepG rfl rfl rfl rfl rfl (lk_fieldMv7 rfl rfl rfl (fun u15_7 k7 => ?_))
    replace hc := mv0 hc k7
    clear k7
    simp only [List.setIfInBounds_toArray, List.set_cons_succ, List.set_cons_zero, List.getElem_toArray, List.getElem_cons_succ, List.getElem_cons_zero]
    refine opsP_stepG rfl rfl rfl rfl rfl (lk_loadI rfl rfl rfl (cell_mv hc m7 id) (fun u15_8 k8 => ?_))
    replace hc := mv0 hc k8
    clear k8
    simp only [List.setIfInBounds_toArray, List.set_cons_succ, List.set_cons_zero, List.getElem_toArray, List.getElem_cons_succ, List.getElem_cons_zero]
    refine opsP_stepG rfl rfl rfl rfl rfl (lk_fieldP1 rfl rfl rfl (fun u15_9 k9 => ?_))
    replace hc := mv0 hc k9
    clear k9
    simp only [List.setIfInBounds_toArray, List.set_cons_succ, List.set_cons_zero, List.getElem_toArray, List.getElem_cons_succ, List.getElem_cons_zero]
    refine opsP_stepG rfl rfl rfl rfl rfl (lk_loadI rfl rfl rfl (cell_mv hc h1 id) (fun u15_10 k10 => ?_))
    replace hc := mv0 hc k10
    clear k10
    simp only [List.setIfInBounds_toArray, List.set_cons_succ, List.set_cons_zero, List.getElem_toArray, List.getElem_cons_succ, List.getElem_cons_zero]
    refine opsP_stepG rfl rfl rfl rfl rfl (lk_within rfl rfl rfl rfl (HWB.out _ hc) (fun u15_11 k11 => ?_))
    replace hc := mv0 hc k11
    clear k11
    simp only [List.setIfInBounds_toArray, List.set_cons_succ, List.set_cons_zero, List.getElem_toArray, List.getElem_cons_succ, List.getElem_cons_zero]
    refine opsP_stepG rfl rfl rfl rfl rfl (lk_not rfl rfl rfl (fun u15_12 k12 => ?_))
    replace hc := mv0 hc k12
    clear k12
    simp only [List.setIfInBounds_toArray, List.set_cons_succ, List.set_cons_zero, List.getElem_toArray, List.getElem_cons_succ, List.getElem_cons_zero]
    refine opsP_step rfl rfl (lk_pickE rfl rfl rfl rfl (fun u15_13 k13 => ?_))
    replace hc := mv0 hc k13
    clear k13
    simp only [List.setIfInBounds_toArray, List.set_cons_succ, List.set_cons_zero, List.getElem_toArray, List.getElem_cons_succ, List.getElem_cons_zero]
    refine opsP_step rfl rfl (lk_move rfl rfl rfl (fun u15_14 k14 => ?_))
    replace hc := mv0 hc k14
    clear k14
    simp only [List.setIfInBounds_toArray, List.set_cons_succ, List.set_cons_zero, List.getElem_toArray, List.getElem_cons_succ, List.getElem_cons_zero]
    refine opsP_stepG rfl rfl rfl rfl rfl (lk_fieldMv8 rfl rfl rfl (fun u15_15 k15 => ?_))
    replace hc := mv0 hc k15
    clear k15
    simp only [List.setIfInBounds_toArray, List.set_cons_succ, List.set_cons_zero, List.getElem_toArray, List.getElem_cons_succ, List.getElem_cons_zero]
    refine opsP_stepG rfl rfl rfl rfl rfl (lk_loadU rfl rfl rfl (cell_mv hc m8 id) (fun u15_16 k16 => ?_))
    replace hc := mv0 hc k16
    clear k16
    simp only [List.setIfInBounds_toArray, List.set_cons_succ, List.set_cons_zero, List.getElem_toArray, List.getElem_cons_succ, List.getElem_cons_zero]
    refine opsP_stepG rfl rfl rfl rfl rfl (lk_fieldP2 rfl rfl rfl (fun u15_17 k17 => ?_))
    replace hc := mv0 hc k17
    clear k17
    simp only [List.setIfInBounds_toArray, List.set_cons_succ, List.set_cons_zero, List.getElem_toArray, List.getElem_cons_succ, List.getElem_cons_zero]
    refine opsP_stepG rfl rfl rfl rfl rfl (lk_loadU rfl rfl rfl (cell_mv hc h2 id) (fun u15_18 k18 => ?_))
    replace hc := mv0 hc k18
    clear k18
    simp only [List.setIfInBounds_toArray, List.set_cons_succ, List.set_cons_zero, List.getElem_toArray, List.getElem_cons_succ, List.getElem_cons_zero]
    refine opsP_stepG rfl rfl rfl rfl rfl (lk_andNot0 HZA.out rfl rfl rfl rfl (fun u15_19 k19 => ?_))
    replace hc := mv0 hc k19
    clear k19
    simp only [List.setIfInBounds_toArray, List.set_cons_succ, List.set_cons_zero, List.getElem_toArray, List.getElem_cons_succ, List.getElem_cons_zero]
    refine opsP_stepG rfl rfl rfl rfl rfl (lk_neq0 rfl rfl rfl (fun u15_20 k20 => ?_))
    replace hc := mv0 hc k20
    clear k20
    simp only [List.setIfInBounds_toArray, List.set_cons_succ, List.set_cons_zero, List.getElem_toArray, List.getElem_cons_succ, List.getElem_cons_zero]
    refine opsP_step rfl rfl (lk_pickE rfl rfl rfl rfl (fun u15_21 k21 => ?_))
    replace hc := mv0 hc k21
    clear k21
    simp only [List.setIfInBounds_toArray, List.set_cons_succ, List.set_cons_zero, List.getElem_toArray, List.getElem_cons_succ, List.getElem_cons_zero]
    refine opsP_step rfl rfl (lk_move rfl rfl rfl (fun u15_22 k22 => ?_))
    replace hc := mv0 hc k22
    clear k22
    simp only [List.setIfInBounds_toArray, List.set_cons_succ, List.set_cons_zero, List.getElem_toArray, List.getElem_cons_succ, List.getElem_cons_zero]
    refine opsP_stepG rfl rfl rfl rfl rfl (lk_fieldP0 rfl rfl rfl (fun u15_23 k23 => ?_))
    replace hc := mv0 hc k23
    clear k23
    simp only [List.setIfInBounds_toArray, List.set_cons_succ, List.set_cons_zero, List.getElem_toArray, List.getElem_cons_succ, List.getElem_cons_zero]
    refine opsP_stepG rfl rfl rfl rfl rfl (lk_loadI rfl rfl rfl (cell_mv hc h0 id) (fun u15_24 k24 => ?_))
    replace hc := mv0 hc k24
    clear k24
    simp only [List.setIfInBounds_toArray, List.set_cons_succ, List.set_cons_zero, List.getElem_toArray, List.getElem_cons_succ, List.getElem_cons_zero]
    refine opsP_stepG rfl rfl rfl rfl rfl (lk_fieldP0 rfl rfl rfl (fun u15_25 k25 => ?_))
    replace hc := mv0 hc k25
    clear k25
    simp only [List.setIfInBounds_toArray, List.set_cons_succ, List.set_cons_zero, List.getElem_toArray, List.getElem_cons_succ, List.getElem_cons_zero]
    refine opsP_stepG rfl rfl rfl rfl rfl (lk_loadI rfl rfl rfl (cell_mv hc e0 id) (fun u15_26 k26 => ?_))
    replace hc := mv0 hc k26
    clear k26
    simp only [List.setIfInBounds_toArray, List.set_cons_succ, List.set_cons_zero, List.getElem_toArray, List.getElem_cons_succ, List.getElem_cons_zero]
    refine opsP_stepG rfl rfl rfl rfl rfl (lk_within rfl rfl rfl rfl (HWC.out _ hc) (fun u15_27 k27 => ?_))
    replace hc := mv0 hc k27
    clear k27
    simp only [List.setIfInBounds_toArray, List.set_cons_succ, List.set_cons_zero, List.getElem_toArray, List.getElem_cons_succ, List.getElem_cons_zero]
    refine opsP_stepG rfl rfl rfl rfl rfl (lk_not rfl rfl rfl (fun u15_28 k28 => ?_))
    replace hc := mv0 hc k28
    clear k28
    simp only [List.setIfInBounds_toArray, List.set_cons_succ, List.set_cons_zero, List.getElem_toArray, List.getElem_cons_succ, List.getElem_cons_zero]
    refine opsP_step rfl rfl (lk_pickE rfl rfl rfl rfl (fun u15_29 k29 => ?_))
    replace hc := mv0 hc k29
    clear k29
    simp only [List.setIfInBounds_toArray, List.set_cons_succ, List.set_cons_zero, List.getElem_toArray, List.getElem_cons_succ, List.getElem_cons_zero]
    refine opsP_step rfl rfl (lk_move rfl rfl rfl (fun u15_30 k30 => ?_))
    replace hc := mv0 hc k30
    clear k30
    simp only [List.setIfInBounds_toArray, List.set_cons_succ, List.set_cons_zero, List.getElem_toArray, List.getElem_cons_succ, List.getElem_cons_zero]
    refine opsP_stepG rfl rfl rfl rfl rfl (lk_fieldP1 rfl rfl rfl (fun u15_31 k31 => ?_))
    replace hc := mv0 hc k31
    clear k31
    simp only [List.setIfInBounds_toArray, List.set_cons_succ, List.set_cons_zero, List.getElem_toArray, List.getElem_cons_succ, List.getElem_cons_zero]
    refine opsP_stepG rfl rfl rfl rfl rfl (lk_loadI rfl rfl rfl (cell_mv hc h1 id) (fun u15_32 k32 => ?_))
    replace hc := mv0 hc k32
    clear k32
    simp only [List.setIfInBounds_toArray, List.set_cons_succ, List.set_cons_zero, List.getElem_toArray, List.getElem_cons_succ, List.getElem_cons_zero]
    refine opsP_stepG rfl rfl rfl rfl rfl (lk_fieldP1 rfl rfl rfl (fun u15_33 k33 => ?_))
    replace hc := mv0 hc k33
    clear k33
    simp only [List.setIfInBounds_toArray, List.set_cons_succ, List.set_cons_zero, List.getElem_toArray, List.getElem_cons_succ, List.getElem_cons_zero]
    refine opsP_stepG rfl rfl rfl rfl rfl (lk_loadI rfl rfl rfl (cell_mv hc e1 id) (fun u15_34 k34 => ?_))
    replace hc := mv0 hc k34
    clear k34
    simp only [List.setIfInBounds_toArray, List.set_cons_succ, List.set_cons_zero, List.getElem_toArray, List.getElem_cons_succ, List.getElem_cons_zero]
    refine opsP_stepG rfl rfl rfl rfl rfl (lk_within rfl rfl rfl rfl (HWD.out _ hc) (fun u15_35 k35 => ?_))
    replace hc := mv0 hc k35
    clear k35
    simp only [List.setIfInBounds_toArray, List.set_cons_succ, List.set_cons_zero, List.getElem_toArray, List.getElem_cons_succ, List.getElem_cons_zero]
    refine opsP_stepG rfl rfl rfl rfl rfl (lk_not rfl rfl rfl (fun u15_36 k36 => ?_))
    replace hc := mv0 hc k36
    clear k36
    simp only [List.setIfInBounds_toArray, List.set_cons_succ, List.set_cons_zero, List.getElem_toArray, List.getElem_cons_succ, List.getElem_cons_zero]
    refine opsP_step rfl rfl (lk_pickE rfl rfl rfl rfl (fun u15_37 k37 => ?_))
    replace hc := mv0 hc k37
    clear k37
    simp only [List.setIfInBounds_toArray, List.set_cons_succ, List.set_cons_zero, List.getElem_toArray, List.getElem_cons_succ, List.getElem_cons_zero]
    refine opsP_step rfl rfl (lk_move rfl rfl rfl (fun u15_38 k38 => ?_))
    replace hc := mv0 hc k38
    clear k38
    simp only [List.setIfInBounds_toArray, List.set_cons_succ, List.set_cons_zero, List.getElem_toArray, List.getElem_cons_succ, List.getElem_cons_zero]
    refine opsP_stepG rfl rfl rfl rfl rfl (lk_fieldP2 rfl rfl rfl (fun u15_39 k39 => ?_))
    replace hc := mv0 hc k39
    clear k39
    simp only [List.setIfInBounds_toArray, List.set_cons_succ, List.set_cons_zero, List.getElem_toArray, List.getElem_cons_succ, List.getElem_cons_zero]
    refine opsP_stepG rfl rfl rfl rfl rfl (lk_loadU rfl rfl rfl (cell_mv hc h2 id) (fun u15_40 k40 => ?_))
    replace hc := mv0 hc k40
    clear k40
    simp only [List.setIfInBounds_toArray, List.set_cons_succ, List.set_cons_zero, List.getElem_toArray, List.getElem_cons_succ, List.getElem_cons_zero]
    refine opsP_stepG rfl rfl rfl rfl rfl (lk_fieldP2 rfl rfl rfl (fun u15_41 k41 => ?_))
    replace hc := mv0 hc k41
    clear k41
    simp only [List.setIfInBounds_toArray, List.set_cons_succ, List.set_cons_zero, List.getElem_toArray, List.getElem_cons_succ, List.getElem_cons_zero]
    refine opsP_stepG rfl rfl rfl rfl rfl (lk_loadU rfl rfl rfl (cell_mv hc e2 id) (fun u15_42 k42 => ?_))
    replace hc := mv0 hc k42
    clear k42
    simp only [List.setIfInBounds_toArray, List.set_cons_succ, List.set_cons_zero, List.getElem_toArray, List.getElem_cons_succ, List.getElem_cons_zero]
    refine opsP_stepG rfl rfl rfl rfl rfl (lk_andNot0 HZB.out rfl rfl rfl rfl (fun u15_43 k43 => ?_))
    replace hc := mv0 hc k43
    clear k43
    simp only [List.setIfInBounds_toArray, List.set_cons_succ, List.set_cons_zero, List.getElem_toArray, List.getElem_cons_succ, List.getElem_cons_zero]
    refine opsP_stepG rfl rfl rfl rfl rfl (lk_neq0 rfl rfl rfl (fun u15_44 k44 => ?_))
    replace hc := mv0 hc k44
    clear k44
    simp only [List.setIfInBounds_toArray, List.set_cons_succ, List.set_cons_zero, List.getElem_toArray, List.getElem_cons_succ, List.getElem_cons_zero]
    refine opsP_step rfl rfl (lk_pickE rfl rfl rfl rfl (fun u15_45 k45 => ?_))
    replace hc := mv0 hc k45
    clear k45
    simp only [List.setIfInBounds_toArray, List.set_cons_succ, List.set_cons_zero, List.getElem_toArray, List.getElem_cons_succ, List.getElem_cons_zero]
    show Exit.then _ _ .normal _ _
    refine hKC15 _ _ ?_
    clear hKC15
    replace m4 := cell_mv hc m4 id
    replace m5 := cell_mv hc m5 id
    replace m8 := cell_mv hc m8 id
    have HNC := hid (mv0 HNB.out hc)
    clear hc HNB HWA HWB HWC HWD HZA HZB HXI HeI HhI HSE HSH2 h0 h1 h2 e0 e1 e2 m0 m6 m7
    by_cases hbad : a.bad = 0
    case neg =>
      go_wp2_with fail
      refine (known_any nCons u15_45).mono ?_
      rintro e wz ⟨rfl, hnz⟩
      have HMZ : Hid (Nu w wz) := mv0 (mv0 HN2.out HNC.out) hnz
      clear hnz
      go_wp2
      go_ret
      exact ⟨rfl, HMZ.out⟩
    rw [hbad] at m5
    have HOK2 : Hid (Okay t (behindN t.init.length L p a)) := behind_okay HOK.out HMK.out.pl HMK.out.ta
    have hto2 : to = txt (encs (behindN t.init.length L p a)) := by rw [← HTO.out, if_pos hbad]
    have HLE := hid (HMK.out.le hbad)
    have HTU := hid HMK.out.tu
    have HFT := hid HMK.out.sm.2.2
    have hex : ∃ L2, L2 = behindN t.init.length L p a := ⟨_, rfl⟩
    refine Exists.elim hex (fun L2 hL2 => ?_)
    clear hex
    rw [← hL2] at hto2
    rw [← hL2] at HOK2
    rw [← hL2] at HLE
    rw [← hL2] at HTU
    clear hL2
    subst hto2
    simp only [if_pos hbad]
    clear HTO HMK
    have HNB := HNC
    clear HNC
    go_upto_region 18 with fail
    rename_i KC18 hKC18
    refine wp_region ?_
    show wpOps _ _ _ [0, 1, 2, 3, 4] _ _
    have hc : Nu u15_45 u15_45 := Mv.refl _ _
    clear m5
    refine opsP_step rfl rfl (lk_move rfl rfl rfl (fun u18_0 k0 => ?_))
    replace hc := mv0 hc k0
    clear k0
    simp only [List.setIfInBounds_toArray, List.set_cons_succ, List.set_cons_zero, List.getElem_toArray, List.getElem_cons_succ, List.getElem_cons_zero]
    refine opsP_step rfl rfl (lk_move rfl rfl rfl (fun u18_1 k1 => ?_))
    replace hc := mv0 hc k1
    clear k1
    simp only [List.setIfInBounds_toArray, List.set_cons_succ, List.set_cons_zero, List.getElem_toArray, List.getElem_cons_succ, List.getElem_cons_zero]
    have hex := HS.out.sys _ (mv0 HNB.out hc)
    refine Exists.elim hex (fun F8 hs8 => ?_)
    clear hex
    have hex := (hs8.does _ (KeepF.refl _ _)).lk
    refine Exists.elim hex (fun fid hex2 => Exists.elim hex2 (fun rv hex3 => ?_))
    clear hex hex2
    have hmt := hex3.1.1
    have hen := hex3.1.2.1
    have hcL := hex3.2
    clear hex3
    refine opsP_step rfl rfl (lk_lookV hmt hen rfl rfl rfl rfl (hcL _ (encs_short HM.out HOK.out)) (fun u18_2 k2 => ?_))
    replace hc := mv0 hc k2
    clear k2 hcL hmt hen hs8
    simp only [List.setIfInBounds_toArray, List.set_cons_succ, List.set_cons_zero, List.getElem_toArray, List.getElem_cons_succ, List.getElem_cons_zero]
    refine opsP_step rfl rfl (lk_sight0 rfl rfl rfl (fun u18_3 k3 => ?_))
    replace hc := mv0 hc k3
    clear k3
    simp only [List.setIfInBounds_toArray, List.set_cons_succ, List.set_cons_zero, List.getElem_toArray, List.getElem_cons_succ, List.getElem_cons_zero]
    refine opsP_step rfl rfl (lk_assign rfl rfl rfl (fun u18_4 k4 => ?_))
    replace hc := mv0 hc k4
    clear k4
    simp only [List.setIfInBounds_toArray, List.set_cons_succ, List.set_cons_zero, List.getElem_toArray, List.getElem_cons_succ, List.getElem_cons_zero]
    have HP1 : ((threadSem t).look (txt (encs L))).props = ((seenTo L t.props t.props.length : Nat) : Int) := look_props HM.out HOK.out
    show Exit.then _ _ .normal _ _
    refine hKC18 _ _ ?_
    clear hKC18
    replace m4 := cell_mv hc m4 id
    replace m8 := cell_mv hc m8 id
    replace HNB := hid (mv0 HNB.out hc)
    clear hc
    go_upto_region 19 with fail
    rename_i KC19 hKC19
    refine wp_region ?_
    show wpOps _ _ _ [0, 1, 2, 3, 4, 5] _ _
    have hc : Nu u18_4 u18_4 := Mv.refl _ _
    refine opsP_step rfl rfl (lk_move rfl rfl rfl (fun u19_0 k0 => ?_))
    replace hc := mv0 hc k0
    clear k0
    simp only [List.setIfInBounds_toArray, List.set_cons_succ, List.set_cons_zero, List.getElem_toArray, List.getElem_cons_succ, List.getElem_cons_zero]
    refine opsP_step rfl rfl (lk_fieldMv4 rfl rfl rfl (fun u19_1 k1 => ?_))
    replace hc := mv0 hc k1
    clear k1
    simp only [List.setIfInBounds_toArray, List.set_cons_succ, List.set_cons_zero, List.getElem_toArray, List.getElem_cons_succ, List.getElem_cons_zero]
    refine opsP_step rfl rfl (lk_loadSt rfl rfl rfl (cell_mv hc m4 id) (fun u19_2 k2 => ?_))
    replace hc := mv0 hc k2
    clear k2
    simp only [List.setIfInBounds_toArray, List.set_cons_succ, List.set_cons_zero, List.getElem_toArray, List.getElem_cons_succ, List.getElem_cons_zero]
    have hex := HS.out.sys _ (mv0 HNB.out hc)
    refine Exists.elim hex (fun F8 hs8 => ?_)
    clear hex
    have hex := (hs8.does _ (KeepF.refl _ _)).lk
    refine Exists.elim hex (fun fid hex2 => Exists.elim hex2 (fun rv hex3 => ?_))
    clear hex hex2
    have hmt := hex3.1.1
    have hen := hex3.1.2.1
    have hcL := hex3.2
    clear hex3
    refine opsP_step rfl rfl (lk_lookV hmt hen rfl rfl rfl rfl (hcL _ (encs_short HM.out HOK2.out)) (fun u19_3 k3 => ?_))
    replace hc := mv0 hc k3
    clear k3 hcL hmt hen hs8
    simp only [List.setIfInBounds_toArray, List.set_cons_succ, List.set_cons_zero, List.getElem_toArray, List.getElem_cons_succ, List.getElem_cons_zero]
    refine opsP_step rfl rfl (lk_sight0 rfl rfl rfl (fun u19_4 k4 => ?_))
    replace hc := mv0 hc k4
    clear k4
    simp only [List.setIfInBounds_toArray, List.set_cons_succ, List.set_cons_zero, List.getElem_toArray, List.getElem_cons_succ, List.getElem_cons_zero]
    refine opsP_step rfl rfl (lk_assign rfl rfl rfl (fun u19_5 k5 => ?_))
    replace hc := mv0 hc k5
    clear k5
    simp only [List.setIfInBounds_toArray, List.set_cons_succ, List.set_cons_zero, List.getElem_toArray, List.getElem_cons_succ, List.getElem_cons_zero]
    have HP2 : ((threadSem t).look (txt (encs L2))).props = ((seenTo L2 t.props t.props.length : Nat) : Int) := look_props HM.out HOK2.out
    show Exit.then _ _ .normal _ _
    refine hKC19 _ _ ?_
    clear hKC19
    replace m4 := cell_mv hc m4 id
    replace m8 := cell_mv hc m8 id
    replace HNB := hid (mv0 HNB.out hc)
    have HZX : Hid (bits .andNot .u64 (bits .xor .u64 ((threadSem t).look (txt (encs L))).props ((threadSem t).look (txt (encs L2))).props) ((f.t : Nat) : Int) = 0) := by
      have hp60 := (mayT_parts HM.out).2.2.1
      have h1 : ∀ M, seenTo M t.props t.props.length < 18446744073709551616 := fun M => Nat.lt_of_lt_of_le (seenTo_lt M t.props t.props.length) (Nat.le_trans (Nat.pow_le_pow_right (by decide) hp60) (by decide))
      show _ = _
      rw [HP1, HP2, bits_xor_u64_nat _ _ (h1 L) (h1 L2)]
      exact andNot_sub (Nat.xor_lt_two_pow (n := 64) (h1 L) (h1 L2)) HFT.out HTU.out
    clear HP1 HP2
    clear hc
    go_upto_region 20 with fail
    rename_i KC20 hKC20
    refine wp_region ?_
    show wpOps _ _ _ [0, 1, 2, 3, 4, 5, 6] _ _
    have hc : Nu u19_5 u19_5 := Mv.refl _ _
    refine opsP_step rfl rfl (lk_move rfl rfl rfl (fun u20_0 k0 => ?_))
    replace hc := mv0 hc k0
    clear k0
    simp only [List.setIfInBounds_toArray, List.set_cons_succ, List.set_cons_zero, List.getElem_toArray, List.getElem_cons_succ, List.getElem_cons_zero]
    refine opsP_step rfl rfl (lk_move rfl rfl rfl (fun u20_1 k1 => ?_))
    replace hc := mv0 hc k1
    clear k1
    simp only [List.setIfInBounds_toArray, List.set_cons_succ, List.set_cons_zero, List.getElem_toArray, List.getElem_cons_succ, List.getElem_cons_zero]
    refine opsP_step rfl rfl (lk_xorU rfl rfl rfl rfl (fun u20_2 k2 => ?_))
    replace hc := mv0 hc k2
    clear k2
    simp only [List.setIfInBounds_toArray, List.set_cons_succ, List.set_cons_zero, List.getElem_toArray, List.getElem_cons_succ, List.getElem_cons_zero]
    refine opsP_step rfl rfl (lk_fieldMv8 rfl rfl rfl (fun u20_3 k3 => ?_))
    replace hc := mv0 hc k3
    clear k3
    simp only [List.setIfInBounds_toArray, List.set_cons_succ, List.set_cons_zero, List.getElem_toArray, List.getElem_cons_succ, List.getElem_cons_zero]
    refine opsP_step rfl rfl (lk_loadU rfl rfl rfl (cell_mv hc m8 id) (fun u20_4 k4 => ?_))
    replace hc := mv0 hc k4
    clear k4
    simp only [List.setIfInBounds_toArray, List.set_cons_succ, List.set_cons_zero, List.getElem_toArray, List.getElem_cons_succ, List.getElem_cons_zero]
    refine opsP_step rfl rfl (lk_andNot0 HZX.out rfl rfl rfl rfl (fun u20_5 k5 => ?_))
    replace hc := mv0 hc k5
    clear k5
    simp only [List.setIfInBounds_toArray, List.set_cons_succ, List.set_cons_zero, List.getElem_toArray, List.getElem_cons_succ, List.getElem_cons_zero]
    refine opsP_step rfl rfl (lk_neq0 rfl rfl rfl (fun u20_6 k6 => ?_))
    replace hc := mv0 hc k6
    clear k6
    simp only [List.setIfInBounds_toArray, List.set_cons_succ, List.set_cons_zero, List.getElem_toArray, List.getElem_cons_succ, List.getElem_cons_zero]
    show Exit.then _ _ .normal _ _
    refine hKC20 _ _ ?_
    clear hKC20
    have hm4 := cell_mv hc m4 id
    have HM4 := hid hm4
    have HNA := hid (mv0 HNB.out hc)
    clear hc hm4 m4 m8 HZX HTU HFT HNB
    -- BEFORE
    go_wp2
    go_loopw [15] (fun qv wk => ∃ q : Nat, q ≤ t.procs.length ∧ qv = .int .i64 (q : Int) ∧ Hid (Nu u20_6 wk)) (fun qv _ => t.procs.length - (intOf qv).toNat)
    case atStart => exact ⟨0, Nat.zero_le _, rfl, Mv.refl _ _⟩
    case round =>
      rename World => wk
      obtain ⟨q, hq, rfl, HNQ⟩ := hrel
      have m4 := cell_mv HNQ.out HM4.out id
      have b1 := cell_mv (mv0 HNA.out HNQ.out) HB2.out id
      rcases Nat.lt_or_ge q t.procs.length with hql | hqg
      case inr =>
        obtain rfl : q = t.procs.length := by omega
        have hqs : ¬ (t.procs.length : Int) < (t.procs.length : Int) := by omega
        have HNZ : Hid (Nu w2 wk) := mv0 HNA.out HNQ.out
        clear hqg hq HNQ
        go_wp2
        go_roundw
        case rel => exact ⟨i + 1, L2, HLT.out, rfl, by go_num, HOK2.out, HNZ.out⟩
        case measure => have := HLT.out; simp [intOf]; omega
      have hqs : (q : Int) < (t.procs.length : Int) := by omega
      have HQ := hid hql
      have HNB : Hid (Nu w2 wk) := mv0 HNA.out HNQ.out
      clear hql hq
      go_upto_region 25 with fail
      rename_i KC25 hKC25
      refine wp_region ?_
      show wpOps _ _ _ [0, 1, 2, 3, 4, 5] _ _
      have hc : Nu wk wk := Mv.refl _ _
      clear b1 hqs
      refine opsP_step rfl rfl (lk_move rfl rfl rfl (fun u25_0 k0 => ?_))
      replace hc := mv0 hc k0
      clear k0
      simp only [List.setIfInBounds_toArray, List.set_cons_succ, List.set_cons_zero, List.getElem_toArray, List.getElem_cons_succ, List.getElem_cons_zero]
      refine opsP_step rfl rfl (lk_move rfl rfl rfl (fun u25_1 k1 => ?_))
      replace hc := mv0 hc k1
      clear k1
      simp only [List.setIfInBounds_toArray, List.set_cons_succ, List.set_cons_zero, List.getElem_toArray, List.getElem_cons_succ, List.getElem_cons_zero]
      refine opsP_step rfl rfl (lk_move rfl rfl rfl (fun u25_2 k2 => ?_))
      replace hc := mv0 hc k2
      clear k2
      simp only [List.setIfInBounds_toArray, List.set_cons_succ, List.set_cons_zero, List.getElem_toArray, List.getElem_cons_succ, List.getElem_cons_zero]
      obtain ⟨fid, rv, ⟨hmt, hen, _⟩, hcE⟩ := HS.out.ever _ (mv0 HNB.out hc)
      refine opsP_step rfl rfl (lk_invEver hmt hen rfl rfl rfl rfl rfl (hcE L q HOK.out HQ.out) (fun e xw hT => ?_))
      obtain ⟨hnx, xra, xrc, xwa, xwc, rfl, hor, how⟩ := hT
      refine ⟨_, rfl, ?_⟩
      simp only [List.setIfInBounds_toArray, List.set_cons_succ, List.set_cons_zero, List.getElem_toArray, List.getElem_cons_succ, List.getElem_cons_zero]
      replace hc := mv0 hc hnx
      refine opsP_step rfl rfl (lk_allocFt rfl rfl ?_)
      simp only [List.setIfInBounds_toArray, List.set_cons_succ, List.set_cons_zero, List.getElem_toArray, List.getElem_cons_succ, List.getElem_cons_zero]
      have ha := Mv.alloc (fun _ => False) xw (.cells #[.slice none 0 0, .slice none 0 0, .int .u64 0] 58)
      have hb := heap_alloc_new xw (.cells #[.slice none 0 0, .slice none 0 0, .int .u64 0] 58)
      generalize xw.alloc (.cells #[.slice none 0 0, .slice none 0 0, .int .u64 0] 58) = xw1 at *
      refine opsP_step rfl rfl (lk_storeFt rfl rfl rfl rfl hb (fun xw2 hb2 hm2 => ?_))
      have hnn : Nu xw xw2 := ha.trans hm2 (fun x hx => .inr (by have : x = xw.heap.size := hx; omega))
      replace hc := mv0 hc hnn
      have HxB : Hid (xw2.heap[xw.heap.size]? = some (.cells #[.slice xra (bitsOf (everT t q (L.getD (t.init.length + q) 0)).r).length xrc, .slice xwa (bitsOf (everT t q (L.getD (t.init.length + q) 0)).w).length xwc, .int .u64 (((everT t q (L.getD (t.init.length + q) 0)).t : Nat) : Int)] 58 (0, 0))) := hb2
      have HxI : Hid (IntsAt xw2 xw2.heap.size xra (ints (bitsOf (everT t q (L.getD (t.init.length + q) 0)).r)) ∧ IntsAt xw2 xw2.heap.size xwa (ints (bitsOf (everT t q (L.getD (t.init.length + q) 0)).w))) := ⟨hor.at.below hnn.nu_below hnn.size, how.at.below hnn.nu_below hnn.size⟩
      generalize xw.heap.size = xb at *
      have HNC := hid hc
      clear hc ha hb hb2 hm2 hnn hor how hnx hcE hen hmt
      show Exit.then _ _ .normal _ _
      refine hKC25 _ _ ?_
      clear hKC25
      replace m4 := cell_mv HNC.out m4 id
      replace HNB : Hid (Nu w2 xw2) := mv0 HNB.out HNC.out
      have HNQ2 : Hid (Nu u20_6 xw2) := mv0 HNQ.out HNC.out
      obtain ⟨x0, x1, x2⟩ := cells3 HxB.out
      clear HNC
      go_upto_region 26 with fail
      rename_i KC26 hKC26
      refine wp_region ?_
      show wpOps _ _ _ [0, 1, 2, 3, 4, 5, 6] _ _
      have hc : Nu xw2 xw2 := Mv.refl _ _
      refine opsP_step rfl rfl (lk_move rfl rfl rfl (fun u26_0 k0 => ?_))
      replace hc := mv0 hc k0
      clear k0
      simp only [List.setIfInBounds_toArray, List.set_cons_succ, List.set_cons_zero, List.getElem_toArray, List.getElem_cons_succ, List.getElem_cons_zero]
      refine opsP_step rfl rfl (lk_fieldMv4 rfl rfl rfl (fun u26_1 k1 => ?_))
      replace hc := mv0 hc k1
      clear k1
      simp only [List.setIfInBounds_toArray, List.set_cons_succ, List.set_cons_zero, List.getElem_toArray, List.getElem_cons_succ, List.getElem_cons_zero]
      refine opsP_step rfl rfl (lk_loadSt rfl rfl rfl (cell_mv hc m4 id) (fun u26_2 k2 => ?_))
      replace hc := mv0 hc k2
      clear k2
      simp only [List.setIfInBounds_toArray, List.set_cons_succ, List.set_cons_zero, List.getElem_toArray, List.getElem_cons_succ, List.getElem_cons_zero]
      refine opsP_step rfl rfl (lk_move rfl rfl rfl (fun u26_3 k3 => ?_))
      replace hc := mv0 hc k3
      clear k3
      simp only [List.setIfInBounds_toArray, List.set_cons_succ, List.set_cons_zero, List.getElem_toArray, List.getElem_cons_succ, List.getElem_cons_zero]
      obtain ⟨fid, rv, ⟨hmt, hen, _⟩, hcE⟩ := HS.out.ever _ (mv0 HNB.out hc)
      refine opsP_step rfl rfl (lk_invEver hmt hen rfl rfl rfl rfl rfl (hcE L2 q HOK2.out HQ.out) (fun e yw hT => ?_))
      obtain ⟨hny, yra, yrc, ywa, ywc, rfl, hor, how⟩ := hT
      refine ⟨_, rfl, ?_⟩
      simp only [List.setIfInBounds_toArray, List.set_cons_succ, List.set_cons_zero, List.getElem_toArray, List.getElem_cons_succ, List.getElem_cons_zero]
      replace hc := mv0 hc hny
      refine opsP_step rfl rfl (lk_allocFt rfl rfl ?_)
      simp only [List.setIfInBounds_toArray, List.set_cons_succ, List.set_cons_zero, List.getElem_toArray, List.getElem_cons_succ, List.getElem_cons_zero]
      have ha := Mv.alloc (fun _ => False) yw (.cells #[.slice none 0 0, .slice none 0 0, .int .u64 0] 58)
      have hb := heap_alloc_new yw (.cells #[.slice none 0 0, .slice none 0 0, .int .u64 0] 58)
      generalize yw.alloc (.cells #[.slice none 0 0, .slice none 0 0, .int .u64 0] 58) = yw1 at *
      refine opsP_step rfl rfl (lk_storeFt rfl rfl rfl rfl hb (fun yw2 hb2 hm2 => ?_))
      have hnn : Nu yw yw2 := ha.trans hm2 (fun x hx => .inr (by have : x = yw.heap.size := hx; omega))
      replace hc := mv0 hc hnn
      have HyB : Hid (yw2.heap[yw.heap.size]? = some (.cells #[.slice yra (bitsOf (everT t q (L2.getD (t.init.length + q) 0)).r).length yrc, .slice ywa (bitsOf (everT t q (L2.getD (t.init.length + q) 0)).w).length ywc, .int .u64 (((everT t q (L2.getD (t.init.length + q) 0)).t : Nat) : Int)] 58 (0, 0))) := hb2
      have HyI : Hid (IntsAt yw2 yw2.heap.size yra (ints (bitsOf (everT t q (L2.getD (t.init.length + q) 0)).r)) ∧ IntsAt yw2 yw2.heap.size ywa (ints (bitsOf (everT t q (L2.getD (t.init.length + q) 0)).w))) := ⟨hor.at.below hnn.nu_below hnn.size, how.at.below hnn.nu_below hnn.size⟩
      generalize yw.heap.size = yb at *
      have HNC := hid hc
      clear hc ha hb hb2 hm2 hnn hor how hny hcE hen hmt
      show Exit.then _ _ .normal _ _
      refine hKC26 _ _ ?_
      clear hKC26
      replace x0 := cell_mv HNC.out x0 id
      replace x1 := cell_mv HNC.out x1 id
      replace x2 := cell_mv HNC.out x2 id
      replace HxI : Hid (IntsAt yw2 yw2.heap.size xra (ints (bitsOf (everT t q (L.getD (t.init.length + q) 0)).r)) ∧ IntsAt yw2 yw2.heap.size xwa (ints (bitsOf (everT t q (L.getD (t.init.length + q) 0)).w))) := ⟨HxI.out.1.below HNC.out.nu_below HNC.out.size, HxI.out.2.below HNC.out.nu_below HNC.out.size⟩
      have HNQ3 : Hid (Nu u20_6 yw2) := mv0 HNQ2.out HNC.out
      obtain ⟨y0, y1, y2⟩ := cells3 HyB.out
      have HSX : Hid (everT t q (L.getD (t.init.length + q) 0)).Small := ever_small HM.out HQ.out (HOK.out.node HQ.out)
      have HSY : Hid (everT t q (L2.getD (t.init.length + q) 0)).Small := ever_small HM.out HQ.out (HOK2.out.node HQ.out)
      have HLQ := hid (HLE.out q HQ.out)
      have HWE := hid (fun (u : World) (hu : Nu yw2 u) => within_bits u (cap := yrc) (dap := xrc) (HyI.out.1.below hu.nu_below hu.size) (HxI.out.1.below hu.nu_below hu.size) HSY.out.1 HSX.out.1 HLQ.out.1)
      have HWF := hid (fun (u : World) (hu : Nu yw2 u) => within_bits u (cap := ywc) (dap := xwc) (HyI.out.2.below hu.nu_below hu.size) (HxI.out.2.below hu.nu_below hu.size) HSY.out.2.1 HSX.out.2.1 HLQ.out.2.1)
      have HZC := hid (andNot_sub HSY.out.2.2 HSX.out.2.2 HLQ.out.2.2)
      clear HNC HNB HxB HyB m4
      go_upto_region 27 with fail
      rename_i KC27 hKC27
      refine wp_region ?_
      show wpOps _ _ _ [0, 1, 2, 3, 4, 5, 6, 7, 8, 9, 10, 11, 12, 13, 14, 15, 16, 17, 18, 19, 20, 21] _ _
      have hc : Nu yw2 yw2 := Mv.refl _ _
      refine opsP_step rfl rfl (lk_fieldP0 rfl rfl rfl (fun u27_0 k0 => ?_))
      replace hc := mv0 hc k0
      clear k0
      simp only [List.setIfInBounds_toArray, List.set_cons_succ, List.set_cons_zero, List.getElem_toArray, List.getElem_cons_succ, List.getElem_cons_zero]
      refine opsP_step rfl rfl (lk_loadI rfl rfl rfl (cell_mv hc y0 id) (fun u27_1 k1 => ?_))
      replace hc := mv0 hc k1
      clear k1
      simp only [List.setIfInBounds_toArray, List.set_cons_succ, List.set_cons_zero, List.getElem_toArray, List.getElem_cons_succ, List.getElem_cons_zero]
      refine opsP_step rfl rfl (lk_fieldP0 rfl rfl rfl (fun u27_2 k2 => ?_))
      replace hc := mv0 hc k2
      clear k2
      simp only [List.setIfInBounds_toArray, List.set_cons_succ, List.set_cons_zero, List.getElem_toArray, List.getElem_cons_succ, List.getElem_cons_zero]
      refine opsP_step rfl rfl (lk_loadI rfl rfl rfl (cell_mv hc x0 id) (fun u27_3 k3 => ?_))
      replace hc := mv0 hc k3
      clear k3
      simp only [List.setIfInBounds_toArray, List.set_cons_succ, List.set_cons_zero, List.getElem_toArray, List.getElem_cons_succ, List.getElem_cons_zero]
      refine opsP_step rfl rfl (lk_within rfl rfl rfl rfl (HWE.out _ hc) (fun u27_4 k4 => ?_))
      replace hc := mv0 hc k4
      clear k4
      simp only [List.setIfInBounds_toArray, List.set_cons_succ, List.set_cons_zero, List.getElem_toArray, List.getElem_cons_succ, List.getElem_cons_zero]
      refine opsP_step rfl rfl (lk_not rfl rfl rfl (fun u27_5 k5 => ?_))
      replace hc := mv0 hc k5
      clear k5
      simp only [List.setIfInBounds_toArray, List.set_cons_succ, List.set_cons_zero, List.getElem_toArray, List.getElem_cons_succ, List.getElem_cons_zero]
      refine opsP_step rfl rfl (lk_move rfl rfl rfl (fun u27_6 k6 => ?_))
      replace hc := mv0 hc k6
      clear k6
      simp only [List.setIfInBounds_toArray, List.set_cons_succ, List.set_cons_zero, List.getElem_toArray, List.getElem_cons_succ, List.getElem_cons_zero]
      refine opsP_stepG rfl rfl rfl rfl rfl (lk_fieldP1 rfl rfl rfl (fun u27_7 k7 => ?_))
      replace hc := mv0 hc k7
      clear k7
      simp only [List.setIfInBounds_toArray, List.set_cons_succ, List.set_cons_zero, List.getElem_toArray, List.getElem_cons_succ, List.getElem_cons_zero]
      refine opsP_stepG rfl rfl rfl rfl rfl (lk_loadI rfl rfl rfl (cell_mv hc y1 id) (fun u27_8 k8 => ?_))
      replace hc := mv0 hc k8
      clear k8
      simp only [List.setIfInBounds_toArray, List.set_cons_succ, List.set_cons_zero, List.getElem_toArray, List.getElem_cons_succ, List.getElem_cons_zero]
      refine opsP_stepG rfl rfl rfl rfl rfl (lk_fieldP1 rfl rfl rfl (fun u27_9 k9 => ?_))
      replace hc := mv0 hc k9
      clear k9
      simp only [List.setIfInBounds_toArray, List.set_cons_succ, List.set_cons_zero, List.getElem_toArray, List.getElem_cons_succ, List.getElem_cons_zero]
      refine opsP_stepG rfl rfl rfl rfl rfl (lk_loadI rfl rfl rfl (cell_mv hc x1 id) (fun u27_10 k10 => ?_))
      replace hc := mv0 hc k10
      clear k10
      simp only [List.setIfInBounds_toArray, List.set_cons_succ, List.set_cons_zero, List.getElem_toArray, List.getElem_cons_succ, List.getElem_cons_zero]
      refine opsP_stepG rfl rfl rfl rfl rfl (lk_within rfl rfl rfl rfl (HWF.out _ hc) (fun u27_11 k11 => ?_))
      replace hc := mv0 hc k11
      clear k11
      simp only [List.setIfInBounds_toArray, List.set_cons_succ, List.set_cons_zero, List.getElem_toArray, List.getElem_cons_succ, List.getElem_cons_zero]
      refine opsP_stepG rfl rfl rfl rfl rfl (lk_not rfl rfl rfl (fun u27_12 k12 => ?_))
      replace hc := mv0 hc k12
      clear k12
      simp only [List.setIfInBounds_toArray, List.set_cons_succ, List.set_cons_zero, List.getElem_toArray, List.getElem_cons_succ, List.getElem_cons_zero]
      refine opsP_step rfl rfl (lk_pickE rfl rfl rfl rfl (fun u27_13 k13 => ?_))
      replace hc := mv0 hc k13
      clear k13
      simp only [List.setIfInBounds_toArray, List.set_cons_succ, List.set_cons_zero, List.getElem_toArray, List.getElem_cons_succ, List.getElem_cons_zero]
      refine opsP_step rfl rfl (lk_move rfl rfl rfl (fun u27_14 k14 => ?_))
      replace hc := mv0 hc k14
      clear k14
      simp only [List.setIfInBounds_toArray, List.set_cons_succ, List.set_cons_zero, List.getElem_toArray, List.getElem_cons_succ, List.getElem_cons_zero]
      refine opsP_stepG rfl rfl rfl rfl rfl (lk_fieldP2 rfl rfl rfl (fun u27_15 k15 => ?_))
      replace hc := mv0 hc k15
      clear k15
      simp only [List.setIfInBounds_toArray, List.set_cons_succ, List.set_cons_zero, List.getElem_toArray, List.getElem_cons_succ, List.getElem_cons_zero]
      refine opsP_stepG rfl rfl rfl rfl rfl (lk_loadU rfl rfl rfl (cell_mv hc y2 id) (fun u27_16 k16 => ?_))
      replace hc := mv0 hc k16
      clear k16
      simp only [List.setIfInBounds_toArray, List.set_cons_succ, List.set_cons_zero, List.getElem_toArray, List.getElem_cons_succ, List.getElem_cons_zero]
      refine opsP_stepG rfl rfl rfl rfl rfl (lk_fieldP2 rfl rfl rfl (fun u27_17 k17 => ?_))
      replace hc := mv0 hc k17
      clear k17
      simp only [List.setIfInBounds_toArray, List.set_cons_succ, List.set_cons_zero, List.getElem_toArray, List.getElem_cons_succ, List.getElem_cons_zero]
      refine opsP_stepG rfl rfl rfl rfl rfl (lk_loadU rfl rfl rfl (cell_mv hc x2 id) (fun u27_18 k18 => ?_))
      replace hc := mv0 hc k18
      clear k18
      simp only [List.setIfInBounds_toArray, List.set_cons_succ, List.set_cons_zero, List.getElem_toArray, List.getElem_cons_succ, List.getElem_cons_zero]
      refine opsP_stepG rfl rfl rfl rfl rfl (lk_andNot0 HZC.out rfl rfl rfl rfl (fun u27_19 k19 => ?_))
      replace hc := mv0 hc k19
      clear k19
      simp only [List.setIfInBounds_toArray, List.set_cons_succ, List.set_cons_zero, List.getElem_toArray, List.getElem_cons_succ, List.getElem_cons_zero]
      refine opsP_stepG rfl rfl rfl rfl rfl (lk_neq0 rfl rfl rfl (fun u27_20 k20 => ?_))
      replace hc := mv0 hc k20
      clear k20
      simp only [List.setIfInBounds_toArray, List.set_cons_succ, List.set_cons_zero, List.getElem_toArray, List.getElem_cons_succ, List.getElem_cons_zero]
      refine opsP_step rfl rfl (lk_pickE rfl rfl rfl rfl (fun u27_21 k21 => ?_))
      replace hc := mv0 hc k21
      clear k21
      simp only [List.setIfInBounds_toArray, List.set_cons_succ, List.set_cons_zero, List.getElem_toArray, List.getElem_cons_succ, List.getElem_cons_zero]
      show Exit.then _ _ .normal _ _
      refine hKC27 _ _ ?_
      clear hKC27
      have HNR := hid (mv0 HNQ3.out hc)
      clear hc HWE HWF HZC HxI HyI HSX HSY HLQ x0 x1 x2 y0 y1 y2
      have hqi := HQ.out
      go_wp2
      go_roundw
      case rel => exact ⟨q + 1, HQ.out, by go_num, HNR.out⟩
      case measure => have := HQ.out; simp [intOf]; omega

end Go.Proofs.YtiinmaedmkgfoaaDoor
