/-
  FaWalk.
-/
import Derived.Test.YtcpgpiokjghcnaaM36
/-
  FairDrops' own walk. NOT CLEAN: under way.
-/
set_option linter.unusedVariables false
set_option linter.unusedSimpArgs false
namespace Go.Proofs.Ytcpgpiokjghcnaa
open Go.RowKit

attribute [local go_sem ↓] fs0 fs1 fs2

set_option maxHeartbeats 8000000 in
set_option maxRecDepth 100000 in
theorem fairDrops_any (w : World) (ns : List Node) (na : Option Addr) (nc : Nat) (hN : NodesAt w w.heap.size na ns) (p : Int) (hp : I64 p) (wo : Option Addr) (wc : Nat) (wy : List Int) (hw : IntsAt w w.heap.size wo wy) (hwy : ∀ v ∈ wy, I64 v) :
    Calls Try.prog 3 #[.agg #[.slice na ns.length nc], .int .i64 p, .slice wo wy.length wc] w fun e w' => e = .returned (.bool true) ∧ Nu w w' := by
  have HNA := hid hN
  have HPI := hid hp
  have HW := hid hw
  have HWY := hid hwy
  clear hN hp hw hwy
  go_enter Try.func3, Try.ntmps3
  go_upto_region 1 with fail
  have HN1 : Hid (Nu w (w.alloc (.cells #[.slice na ns.length nc] 24))) := Mv.alloc _ _ _
  have HB1 : Hid ((w.alloc (.cells #[.slice na ns.length nc] 24)).heap[w.heap.size]? = some (.cells #[.slice na ns.length nc] 24 (0, 0))) := heap_alloc_new w _
  generalize w.alloc (.cells #[.slice na ns.length nc] 24) = w1 at *
  have HNA1 := hid (HNA.out.below HN1.out.nu_below HN1.out.size)
  have c1 := cell_blk HB1.out 0
  go_wp2_with fail
  refine (Of_anyT w1 na nc ns HNA1.out).mono ?_
  rintro e w2 ⟨hn2, hof⟩
  have HN2 := hid (mv0 HN1.out hn2)
  clear c1 HNA1
  rcases hof with ⟨hm, rfl⟩ | ⟨hm, F2, r2, rfl, hs2, _⟩
  · clear hm hn2
    go_wp2_with fail
    refine (pick_any p 17 _ HPI.out.1 HPI.out.2 (by decide) (by decide)).mono ?_
    rintro e w3 ⟨rfl, rfl⟩
    go_wp2_with fail
    refine (known18_any _).mono ?_
    rintro e w4 ⟨rfl, hn4⟩
    have HN4 := hid (mv0 HN2.out hn4)
    clear hn4
    go_wp2_with fail
    go_ret
    exact ⟨rfl, HN4.out⟩
  · have HM := hid hm
    have HS2 := hid hs2
    have HW2 : Hid (IntsAt w2 w2.heap.size wo wy) := HW.out.below HN2.out.nu_below HN2.out.size
    clear hm hs2 hn2
    go_wp2_with fail
    refine (pick_any p 17 _ HPI.out.1 HPI.out.2 (by decide) (by decide)).mono ?_
    rintro e w3 ⟨rfl, hw3⟩
    obtain rfl := hw3.symm
    obtain ⟨k, hk, hk17⟩ : ∃ k : Nat, pickN p 17 = (k : Int) ∧ k ≤ 16 := ⟨(pickN p 17).toNat, by have := pickN_lo p (n := 17) (by decide); omega, by have := pickN_hi p (n := 17) (by decide); have := pickN_lo p (n := 17) (by decide); omega⟩
    rw [hk]
    have HK := hid hk17
    have hki : (k : Int) ≤ 16 := by omega
    have hki0 : (0 : Int) ≤ (k : Int) := by omega
    clear hk hk17
    go_wp2_with fail
    refine (fair_of w2 k HK.out F2 r2 ns HM.out HS2.out).mono ?_
    rintro e w3 ⟨hn3, F3, pb, rfl, hs3⟩
    have HN3 := hid (mv0 HN2.out hn3)
    have HS3 := hid hs3
    have HS2b := hid (HS2.out.nu hn3)
    have HW3 : Hid (IntsAt w3 w3.heap.size wo wy) := HW2.out.below hn3.nu_below hn3.size
    clear hn3 hs3 HW2 HS2
    obtain ⟨fB, rB, ⟨hmB, heB', hnB⟩, hcB⟩ := (HS3.out.doNu (Mv.refl _ w3)).bg
    have heB : ∀ args w, (callFunc fB args).run Try.prog w = .ok (.enter fB args) w := heB'
    have HCB := hid hcB
    clear hcB heB'
    go_wp2_with fail
    refine Calls.mono HCB.out ?_
    rintro e w4 ⟨rfl, hn4⟩
    have HN4 := hid (mv0 HN3.out hn4)
    have HS3b := hid (HS3.out.nu hn4)
    have HS2c := hid (HS2b.out.nu hn4)
    have HW4 : Hid (IntsAt w4 w4.heap.size wo wy) := HW3.out.below hn4.nu_below hn4.size
    clear hn4 HW3 HS2b HS3 HCB hmB heB hnB
    have hbg : (fairSem (graphSem ns) (k + 1)).begin = nst 0 ++ (graphSem ns).begin := rfl
    rw [hbg]
    have HGS := hid (graph_short HM.out)
    go_wp2_with fail
    go_loopw [12, 13] (fun av iv wr => ∃ (q : Nat) (x : ByteArray) (i : Nat), q ≤ k ∧ Hid (x.size ≤ 1000) ∧ i ≤ 20 ∧ av = .string (nst q ++ x) ∧ iv = .int .i64 (i : Int) ∧ Hid (Nu w4 wr)) (fun _ iv _ => 20 - (intOf iv).toNat)
    case atStart => exact ⟨0, _, 0, Nat.zero_le _, HGS.out.1, by omega, rfl, rfl, Mv.refl _ _⟩
    case round =>
      obtain ⟨q, x, i, hqk, HX, hi, rfl, rfl, HNR⟩ := hrel
      rcases Nat.lt_or_ge i wy.length with hiw | hiw
      · rcases Nat.lt_or_ge i 20 with hi20 | hi20
        · have hiw' : (i : Int) < (wy.length : Int) := by omega
          have hi20' : (i : Int) < 20 := by omega
          have HIW := hid (And.intro hiw hi20)
          have HQK := hid hqk
          have hq1 : (0 : Int) ≤ (q : Int) := by omega
          have hq2 : (q : Int) ≤ (k : Int) := by omega
          have hq3 : ¬ (q : Int) < 0 := by omega
          have hq4 : ¬ (k : Int) < (q : Int) := by omega
          have hdec : decide ((i : Int) < (wy.length : Int)) = true := by simpa using hiw'
          clear hqk hi hiw hi20
          go_wp2_with fail
          refine (split_nst wr (by have := HQK.out; have := HK.out; omega) x HX.out).mono ?_
          rintro e w5 ⟨rfl, hn5⟩
          have HN5 := hid (mv0 HNR.out hn5)
          clear hn5 HNR
          go_wp2_with fail
          refine (all_any w5 F3 _ _ _ _ 10000 (HS3b.out.nu HN5.out) (by
            show _ ≤ _
            rw [size_app]
            have := nst_len (k := q) (by have := HQK.out; have := HK.out; omega)
            have := HX.out
            omega) (by decide) (by decide)).mono ?_
          rintro e w6 ⟨hn6, vo1, vc1, xs1, rfl, hx1, hr1, ho1⟩
          have HN6 := hid (mv0 HN5.out hn6)
          have HX1 := hid hx1
          have HR1 := hid (And.intro hr1 ho1)
          clear hn6 hx1 hr1 ho1 HN5
          go_wp2_with fail
          refine (all_any w6 F2 _ _ _ _ 10000 (HS2c.out.nu HN6.out) (by
            show _ ≤ _
            have := HX.out
            omega) (by decide) (by decide)).mono ?_
          rintro e w7 ⟨hn7, vo2, vc2, xs2, rfl, hx2, hr2, ho2⟩
          have HN7 := hid (mv0 HN6.out hn7)
          have HPA := hid (pair_at (K := k + 1) (q := q) (ac := ((graphSem ns).look x).ac) (l := (graphSem ns).next x) (N := 10000) (by have := HQK.out; omega) (xs1 := xs1) (xs2 := xs2) (by
            rw [HX1.out]
            have : (fairSem (graphSem ns) (k + 1)).next (nst q ++ x) = fairMoves (k + 1) q ((graphSem ns).look x).ac ((graphSem ns).next x) := by
              unfold fairSem
              simp only [apartK_nst (K := k + 1) (q := q) (by have := HQK.out; omega) (by have := HK.out; omega)]
            rw [this]
            rfl) hx2)
          have hl10 : xs2.length ≤ 10000 := by
            have := congrArg List.length hx2
            rw [List.length_map, List.length_take] at this
            have h3 : (10000 : Int).toNat = 10000 := rfl
            omega
          have HL10 := hid hl10
          have HM1 : Hid (Ms w7 xs1 vo1 vc1) := ⟨(xs_own HR1.out.1 HR1.out.2 (by have := HPA.out.1; omega)).below (by have := hn7.nu_below; exact this) hn7.size⟩
          have HM2 : Hid (Ms w7 xs2 vo2 vc2) := ⟨xs_own hr2 ho2 (by omega)⟩
          have hlq := HPA.out.1
          clear hn7 hx2 hr2 ho2 HN6 HX1 HR1 hl10
          obtain ⟨n, hn⟩ : ∃ n, xs2.length = n := ⟨_, rfl⟩
          have HLN := hid (And.intro (hlq.trans hn) hn)
          rw [hlq, hn]
          have HLK : Hid ((fairSem (graphSem ns) (k + 1)).look (nst q ++ x) = { (graphSem ns).look x with ac := ((graphSem ns).look x).ac && decide (q = 0) }) := by
            show _ = _
            unfold fairSem
            simp only [apartK_nst (K := k + 1) (q := q) (by have := HQK.out; omega) (by have := HK.out; omega)]
          obtain ⟨s, hs⟩ : ∃ s, (graphSem ns).look x = s := ⟨_, rfl⟩
          have HLC : Hid (∀ w', Nu w4 w' → ∃ f r, Leads 55 (.pointer (some ⟨pb, 0, none⟩)) "Look" f r ∧ Calls Try.prog f #[r, .string (nst q ++ x)] w' fun e w'' => e = .returned (.agg #[.int .u64 s.props, .bool s.en, .bool s.pr, .bool (s.ac && decide (q = 0))]) ∧ Nu w' w'') := fun w' hw => by
            obtain ⟨f, r, h1, h2⟩ := ((HS3b.out.nu hw).doNu (Mv.refl _ w')).lk
            have h3 := h2 (nst q ++ x) (by
              show _ ≤ _
              rw [size_app]
              have := nst_len (k := q) (by have := HQK.out; have := HK.out; omega)
              have := HX.out
              omega)
            rw [HLK.out, hs] at h3
            exact ⟨f, r, h1, h3⟩
          have HLS : Hid (∀ w', Nu w4 w' → ∃ f r, Leads 48 r2 "Look" f r ∧ Calls Try.prog f #[r, .string x] w' fun e w'' => e = .returned (.agg #[.int .u64 s.props, .bool s.en, .bool s.pr, .bool s.ac]) ∧ Nu w' w'') := fun w' hw => by
            obtain ⟨f, r, h1, h2⟩ := ((HS2c.out.nu hw).doNu (Mv.refl _ w')).lk
            have h3 := h2 x (by
              show _ ≤ _
              have := HX.out
              omega)
            rw [hs] at h3
            exact ⟨f, r, h1, h3⟩
          clear hs hlq hn
          obtain ⟨fl, rl, ⟨hml, hel', hnl⟩, hcl⟩ := HLC.out w7 HN7.out
          have hel : ∀ args w, (callFunc fl args).run Try.prog w = .ok (.enter fl args) w := hel'
          have HCL := hid hcl
          clear hcl hel'
          go_wp2_with fail
          refine Calls.mono HCL.out ?_
          rintro e w8 ⟨rfl, hnn⟩
          have HN8 := hid (mv0 HN7.out hnn)
          have HM1 := hid (HM1.out.nu hnn)
          have HM2 := hid (HM2.out.nu hnn)
          clear hnn HN7 HCL hml hel hnl
          obtain ⟨fl, rl, ⟨hml, hel', hnl⟩, hcl⟩ := HLS.out w8 HN8.out
          have hel : ∀ args w, (callFunc fl args).run Try.prog w = .ok (.enter fl args) w := hel'
          have HCL := hid hcl
          clear hcl hel'
          go_wp2_with fail
          refine Calls.mono HCL.out ?_
          rintro e w9 ⟨rfl, hnn⟩
          have HN9 := hid (mv0 HN8.out hnn)
          have HM1 := hid (HM1.out.nu hnn)
          have HM2 := hid (HM2.out.nu hnn)
          clear hnn HN8 HCL hml hel hnl
          obtain ⟨fl, rl, ⟨hml, hel', hnl⟩, hcl⟩ := HLC.out w9 HN9.out
          have hel : ∀ args w, (callFunc fl args).run Try.prog w = .ok (.enter fl args) w := hel'
          have HCL := hid hcl
          clear hcl hel'
          go_wp2_with fail
          refine Calls.mono HCL.out ?_
          rintro e w10 ⟨rfl, hnn⟩
          have HN10 := hid (mv0 HN9.out hnn)
          have HM1 := hid (HM1.out.nu hnn)
          have HM2 := hid (HM2.out.nu hnn)
          clear hnn HN9 HCL hml hel hnl
          obtain ⟨fl, rl, ⟨hml, hel', hnl⟩, hcl⟩ := HLS.out w10 HN10.out
          have hel : ∀ args w, (callFunc fl args).run Try.prog w = .ok (.enter fl args) w := hel'
          have HCL := hid hcl
          clear hcl hel'
          go_wp2_with fail
          refine Calls.mono HCL.out ?_
          rintro e w11 ⟨rfl, hnn⟩
          have HN11 := hid (mv0 HN10.out hnn)
          have HM1 := hid (HM1.out.nu hnn)
          have HM2 := hid (HM2.out.nu hnn)
          clear hnn HN10 HCL hml hel hnl
          obtain ⟨fl, rl, ⟨hml, hel', hnl⟩, hcl⟩ := HLC.out w11 HN11.out
          have hel : ∀ args w, (callFunc fl args).run Try.prog w = .ok (.enter fl args) w := hel'
          have HCL := hid hcl
          clear hcl hel'
          go_wp2_with fail
          refine Calls.mono HCL.out ?_
          rintro e w12 ⟨rfl, hnn⟩
          have HN12 := hid (mv0 HN11.out hnn)
          have HM1 := hid (HM1.out.nu hnn)
          have HM2 := hid (HM2.out.nu hnn)
          clear hnn HN11 HCL hml hel hnl
          obtain ⟨fl, rl, ⟨hml, hel', hnl⟩, hcl⟩ := HLS.out w12 HN12.out
          have hel : ∀ args w, (callFunc fl args).run Try.prog w = .ok (.enter fl args) w := hel'
          have HCL := hid hcl
          clear hcl hel'
          go_wp2_with fail
          refine Calls.mono HCL.out ?_
          rintro e w13 ⟨rfl, hnn⟩
          have HN13 := hid (mv0 HN12.out hnn)
          have HM1 := hid (HM1.out.nu hnn)
          have HM2 := hid (HM2.out.nu hnn)
          clear hnn HN12 HCL hml hel hnl
          clear HLC HLS
          go_wp2_with fail
          go_loopw [19] (fun jv wq => ∃ j : Nat, j ≤ n ∧ jv = .int .i64 (j : Int) ∧ Hid (Nu w13 wq)) (fun jv _ => n - (intOf jv).toNat)
          case atStart => exact ⟨0, Nat.zero_le _, rfl, Mv.refl _ _⟩
          case round =>
            obtain ⟨j, hj, rfl, HNQ⟩ := hrel
            rcases Nat.lt_or_ge j n with hjn | hjn
            · have hjn' : (j : Int) < (n : Int) := by omega
              have HJN : Hid (j < n) := hjn
              have hj10 : (j : Int) ≤ 10000 := by have := HL10.out; have := HLN.out.2; omega
              rcases (HM1.out.nu HNQ.out).at_.row with h0 | ⟨g1, f1, rfl, hg1, hat1⟩
              · have := HLN.out.1; omega
              rcases (HM2.out.nu HNQ.out).at_.row with h0 | ⟨g2, f2, rfl, hg2, hat2⟩
              · have := HLN.out.2; omega
              have hj1 : j < xs1.length := by have := HLN.out.1; omega
              have hj2 : j < xs2.length := by have := HLN.out.2; omega
              obtain ⟨hmem, t, htK, htc, hme⟩ := HPA.out.2 j hj1 hj2
              have hrd1 := (HM1.out.nu HNQ.out).at_.rd _ (List.getElem_mem hj1)
              have hrd2 := (HM2.out.nu HNQ.out).at_.rd _ (List.getElem_mem hj2)
              replace hat1 := hat1 j hj1
              replace hat2 := hat2 j hj2
              obtain ⟨y1, hy1⟩ : ∃ y, xs1[j] = y := ⟨_, rfl⟩
              obtain ⟨y2, hy2⟩ : ∃ y, xs2[j] = y := ⟨_, rfl⟩
              rw [hy1] at hme hrd1 hat1
              rw [hy2] at hme hrd2 hat2 hmem
              have HYA := hid hat2
              have HYR := hid hrd2
              have HSM2 : Hid (y2.m.to.size ≤ 1000) := HGS.out.2 _ _ hmem
              obtain ⟨m1, ra1, rc1, wa1, wc1⟩ := y1
              simp only at hme
              clear hj1 hj2 hy1 hy2 hat2 hrd2 hmem hg1 hg2 hjn hj
              by_cases hbad : y2.m.bad = 0
              · rw [numMv_good hbad] at hme
                subst hme
                have HZR : Hid (XRd wr wr.heap.size ⟨y2.m, ra1, rc1, wa1, wc1⟩) := hrd1
                have HBAD := hid hbad
                obtain ⟨p0, p1, p2, p3, p4, p5, p6, p7, p8⟩ := hat1
                simp only at p0 p1 p2 p3 p4 p5 p6 p7 p8
                rw [hbad] at p5
                have HTC := hid (And.intro htK htc)
                clear hrd1 htK htc hbad
                go_upto_region 23 with fail
                clear p0 p1 p2 p3 p4 p5 p6 p7 p8
                have HA1 : Hid ((wr.alloc (.cells #[.int .i64 y2.m.proc, .int .i64 y2.m.edge, .int .i64 y2.m.wth, .int .i64 y2.m.wedge, .string (nst t ++ y2.m.to), .int .i64 0, .slice ra1 y2.m.reads.length rc1, .slice wa1 y2.m.writes.length wc1, .int .u64 y2.m.turns] 44)).heap[wr.heap.size]? = some (.cells #[.int .i64 y2.m.proc, .int .i64 y2.m.edge, .int .i64 y2.m.wth, .int .i64 y2.m.wedge, .string (nst t ++ y2.m.to), .int .i64 0, .slice ra1 y2.m.reads.length rc1, .slice wa1 y2.m.writes.length wc1, .int .u64 y2.m.turns] 44 (0, 0))) := heap_alloc_new wr _
                have HNB : Hid (Nu wr (wr.alloc (.cells #[.int .i64 y2.m.proc, .int .i64 y2.m.edge, .int .i64 y2.m.wth, .int .i64 y2.m.wedge, .string (nst t ++ y2.m.to), .int .i64 0, .slice ra1 y2.m.reads.length rc1, .slice wa1 y2.m.writes.length wc1, .int .u64 y2.m.turns] 44))) := Mv.alloc _ _ _
                obtain ⟨wA, hwA⟩ : ∃ wA, wr.alloc (.cells #[.int .i64 y2.m.proc, .int .i64 y2.m.edge, .int .i64 y2.m.wth, .int .i64 y2.m.wedge, .string (nst t ++ y2.m.to), .int .i64 0, .slice ra1 y2.m.reads.length rc1, .slice wa1 y2.m.writes.length wc1, .int .u64 y2.m.turns] 44) = wA := ⟨_, rfl⟩
                rw [hwA] at HA1 HNB ⊢
                clear hwA
                have c4 := cell_blk HA1.out 4
                have c5 := cell_blk HA1.out 5
                simp only [List.size_toArray, List.length_cons, List.length_nil, Nat.reduceAdd, Nat.lt_add_one, Nat.reduceLT, getElem?_pos, List.getElem_toArray, List.getElem_cons_zero, List.getElem_cons_succ, Nat.zero_lt_succ] at c4 c5
                go_wp2_with fail
                refine (split_nst wA (by have := HTC.out.1; have := HK.out; omega) y2.m.to HSM2.out).mono ?_
                rintro e wB ⟨rfl, hnB⟩
                have HNC := hid (mv0 HNB.out hnB)
                have HA2 := hid (hnB.heap HA1.out id)
                clear hnB c4 c5 HA1 HNB
                have z4 := free_blk HA2.out 4
                have c4 := cell_blk HA2.out 4
                simp only [List.size_toArray, List.length_cons, List.length_nil, Nat.reduceAdd, Nat.lt_add_one, Nat.reduceLT, getElem?_pos, List.getElem_toArray, List.getElem_cons_zero, List.getElem_cons_succ, Nat.zero_lt_succ] at c4
                have hms : Mv (· = wr.heap.size) wB (wB.setCell ⟨wr.heap.size, 4, none⟩ (.string y2.m.to)) := Mv.setCell wB ⟨wr.heap.size, 4, none⟩ _
                have HWQ : Hid (Nu wr (wB.setCell ⟨wr.heap.size, 4, none⟩ (.string y2.m.to))) := HNC.out.trans hms (fun x hx => .inr (by omega))
                have HBZ : Hid ((wB.setCell ⟨wr.heap.size, 4, none⟩ (.string y2.m.to)).heap[wr.heap.size]? = some (.cells (mvCells y2.m y2.m.to (.slice ra1 y2.m.reads.length rc1) (.slice wa1 y2.m.writes.length wc1)) 44 (0, 0))) := by
                  show _ = _
                  rw [setCell_blk HA2.out]
                  unfold mvCells
                  rw [HBAD.out]
                  rfl
                clear hms
                have hdisj : (t = q) ∨ (t ≠ q ∧ t = q + 1) ∨ (t ≠ q ∧ t ≠ q + 1 ∧ t = 0) := by have := HTC.out.2; omega
                rcases hdisj with ht | ⟨ht1, ht⟩ | ⟨ht1, ht2, ht⟩
                · have e1 : (t : Int) = (q : Int) := by omega
                  rw [e1] at *
                  go_upto_region 28 with fail
                  rename_i KC hKC
                  refine wp_lookR (R28 (some ⟨g2, f2, none⟩) vc2 n j g2 f2 ⟨y2.m, ra1, rc1, wa1, wc1⟩ y2) R28.nu (by kernel_rfl) (by kernel_rfl) ?s28 ?l28
                  case s28 =>
                    intro i o d a w' ho hd hnw hfr had Kx hK
                    have hi : i < 7 := (Array.getElem?_eq_some_iff.1 ho).1
                    have f18 := hfr 18 (by kernel_rfl)
                    have f19 := hfr 19 (by kernel_rfl)
                    have f20 := hfr 20 (by kernel_rfl)
                    have hxr : XRd w' w'.heap.size ⟨y2.m, ra1, rc1, wa1, wc1⟩ := HZR.out.below (mv0 HWQ.out hnw).nu_below (mv0 HWQ.out hnw).size
                    have hyr : XRd w' w'.heap.size y2 := HYR.out.below (mv0 HWQ.out hnw).nu_below (mv0 HWQ.out hnw).size
                    have hya : XAt w' g2 (f2 + j * 9) y2 := HYA.out.mv (mv0 HWQ.out hnw) id
                    have : i = 0 ∨ i = 1 ∨ i = 2 ∨ i = 3 ∨ i = 4 ∨ i = 5 ∨ i = 6 := by omega
                    rcases this with rfl | rfl | rfl | rfl | rfl | rfl | rfl <;> cases ho <;> cases hd
                    · exact ite_yes (want_none rfl) (lk_ldMove (x := ⟨y2.m, ra1, rc1, wa1, wc1⟩) rfl rfl f20 (hnw.heap HBZ.out id) (fun w' hm => hK w' _ hm rfl))
                    · exact ite_yes (want_none rfl) (lk_move rfl rfl f18 (fun w' hm => hK w' _ hm rfl))
                    · exact ite_yes (want_none rfl) (lk_move rfl rfl f19 (fun w' hm => hK w' _ hm rfl))
                    · obtain ⟨⟨_, h0, rfl⟩, ⟨_, h1, rfl⟩, _⟩ := had; exact ite_yes (want_none rfl) (lk_idxMv HJN.out rfl rfl h0 h1 (fun w' hm => hK w' _ hm rfl))
                    · obtain ⟨⟨_, h0, rfl⟩, _⟩ := had; exact ite_yes (want_none rfl) (lk_loadMv rfl rfl h0 hya (fun w' hm => hK w' _ hm rfl))
                    · obtain ⟨⟨_, h0, rfl⟩, ⟨_, h1, rfl⟩, _⟩ := had; exact ite_yes (want_none rfl) (lk_rMove rfl rfl h0 h1 rfl hxr hyr (fun w' hm => hK w' _ hm rfl))
                    · obtain ⟨⟨_, h0, rfl⟩, _⟩ := had; exact ite_yes (want_none rfl) (lk_notT rfl rfl h0 (fun w' hm => hK w' _ hm rfl))
                  case l28 =>
                    intro a wv hnv hdf hsz hfr htv
                    have htm := fill_eqN (vals := fun i => ([X.val ⟨y2.m, ra1, rc1, wa1, wc1⟩, .slice (some ⟨g2, f2, none⟩) n vc2, .int .i64 (j : Int), .pointer (some ⟨g2, f2 + j * 9, none⟩), y2.val, .bool true, .bool false] : List Value).getD i undef) (by kernel_rfl) hfr (fun i p d hi hd => by
                      have hi' : i < 7 := (Array.getElem?_eq_some_iff.1 hi).1
                      obtain ⟨v, h, hv⟩ := htv i p d hi hd
                      have : i = 0 ∨ i = 1 ∨ i = 2 ∨ i = 3 ∨ i = 4 ∨ i = 5 ∨ i = 6 := by omega
                      rcases this with rfl | rfl | rfl | rfl | rfl | rfl | rfl <;> cases hi <;> cases hd <;> exact h.trans (congrArg some hv))
                    refine hKC _ _ ?_
                    rw [act_eq' htm hdf]
                    have HNV := hid (mv0 (mv0 HNQ.out HWQ.out) hnv)
                    clear htm htv hfr hdf hsz hKC hnv
                    simp only [fill, List.getD_cons_succ, List.getD_cons_zero, List.setIfInBounds_toArray, List.set_cons_succ, List.set_cons_zero]
                    go_wp2
                    go_roundw
                    case rel => exact ⟨j + 1, HJN.out, by go_num, HNV.out⟩
                    case measure => have := HJN.out; simp [intOf]; omega
                · have e1 : (t : Int) = (q : Int) + 1 := by omega
                  have e2 : ¬ (q : Int) + 1 = (q : Int) := by omega
                  rw [e1] at *
                  go_upto_region 28 with fail
                  rename_i KC hKC
                  refine wp_lookR (R28 (some ⟨g2, f2, none⟩) vc2 n j g2 f2 ⟨y2.m, ra1, rc1, wa1, wc1⟩ y2) R28.nu (by kernel_rfl) (by kernel_rfl) ?s28 ?l28
                  case s28 =>
                    intro i o d a w' ho hd hnw hfr had Kx hK
                    have hi : i < 7 := (Array.getElem?_eq_some_iff.1 ho).1
                    have f18 := hfr 18 (by kernel_rfl)
                    have f19 := hfr 19 (by kernel_rfl)
                    have f20 := hfr 20 (by kernel_rfl)
                    have hxr : XRd w' w'.heap.size ⟨y2.m, ra1, rc1, wa1, wc1⟩ := HZR.out.below (mv0 HWQ.out hnw).nu_below (mv0 HWQ.out hnw).size
                    have hyr : XRd w' w'.heap.size y2 := HYR.out.below (mv0 HWQ.out hnw).nu_below (mv0 HWQ.out hnw).size
                    have hya : XAt w' g2 (f2 + j * 9) y2 := HYA.out.mv (mv0 HWQ.out hnw) id
                    have : i = 0 ∨ i = 1 ∨ i = 2 ∨ i = 3 ∨ i = 4 ∨ i = 5 ∨ i = 6 := by omega
                    rcases this with rfl | rfl | rfl | rfl | rfl | rfl | rfl <;> cases ho <;> cases hd
                    · exact ite_yes (want_none rfl) (lk_ldMove (x := ⟨y2.m, ra1, rc1, wa1, wc1⟩) rfl rfl f20 (hnw.heap HBZ.out id) (fun w' hm => hK w' _ hm rfl))
                    · exact ite_yes (want_none rfl) (lk_move rfl rfl f18 (fun w' hm => hK w' _ hm rfl))
                    · exact ite_yes (want_none rfl) (lk_move rfl rfl f19 (fun w' hm => hK w' _ hm rfl))
                    · obtain ⟨⟨_, h0, rfl⟩, ⟨_, h1, rfl⟩, _⟩ := had; exact ite_yes (want_none rfl) (lk_idxMv HJN.out rfl rfl h0 h1 (fun w' hm => hK w' _ hm rfl))
                    · obtain ⟨⟨_, h0, rfl⟩, _⟩ := had; exact ite_yes (want_none rfl) (lk_loadMv rfl rfl h0 hya (fun w' hm => hK w' _ hm rfl))
                    · obtain ⟨⟨_, h0, rfl⟩, ⟨_, h1, rfl⟩, _⟩ := had; exact ite_yes (want_none rfl) (lk_rMove rfl rfl h0 h1 rfl hxr hyr (fun w' hm => hK w' _ hm rfl))
                    · obtain ⟨⟨_, h0, rfl⟩, _⟩ := had; exact ite_yes (want_none rfl) (lk_notT rfl rfl h0 (fun w' hm => hK w' _ hm rfl))
                  case l28 =>
                    intro a wv hnv hdf hsz hfr htv
                    have htm := fill_eqN (vals := fun i => ([X.val ⟨y2.m, ra1, rc1, wa1, wc1⟩, .slice (some ⟨g2, f2, none⟩) n vc2, .int .i64 (j : Int), .pointer (some ⟨g2, f2 + j * 9, none⟩), y2.val, .bool true, .bool false] : List Value).getD i undef) (by kernel_rfl) hfr (fun i p d hi hd => by
                      have hi' : i < 7 := (Array.getElem?_eq_some_iff.1 hi).1
                      obtain ⟨v, h, hv⟩ := htv i p d hi hd
                      have : i = 0 ∨ i = 1 ∨ i = 2 ∨ i = 3 ∨ i = 4 ∨ i = 5 ∨ i = 6 := by omega
                      rcases this with rfl | rfl | rfl | rfl | rfl | rfl | rfl <;> cases hi <;> cases hd <;> exact h.trans (congrArg some hv))
                    refine hKC _ _ ?_
                    rw [act_eq' htm hdf]
                    have HNV := hid (mv0 (mv0 HNQ.out HWQ.out) hnv)
                    clear htm htv hfr hdf hsz hKC hnv
                    simp only [fill, List.getD_cons_succ, List.getD_cons_zero, List.setIfInBounds_toArray, List.set_cons_succ, List.set_cons_zero]
                    go_wp2
                    go_roundw
                    case rel => exact ⟨j + 1, HJN.out, by go_num, HNV.out⟩
                    case measure => have := HJN.out; simp [intOf]; omega
                · have e1 : (t : Int) = 0 := by omega
                  have e2 : ¬ (0 : Int) = (q : Int) := by omega
                  have e3 : ¬ (0 : Int) = (q : Int) + 1 := by omega
                  rw [e1] at *
                  go_upto_region 28 with fail
                  rename_i KC hKC
                  refine wp_lookR (R28 (some ⟨g2, f2, none⟩) vc2 n j g2 f2 ⟨y2.m, ra1, rc1, wa1, wc1⟩ y2) R28.nu (by kernel_rfl) (by kernel_rfl) ?s28 ?l28
                  case s28 =>
                    intro i o d a w' ho hd hnw hfr had Kx hK
                    have hi : i < 7 := (Array.getElem?_eq_some_iff.1 ho).1
                    have f18 := hfr 18 (by kernel_rfl)
                    have f19 := hfr 19 (by kernel_rfl)
                    have f20 := hfr 20 (by kernel_rfl)
                    have hxr : XRd w' w'.heap.size ⟨y2.m, ra1, rc1, wa1, wc1⟩ := HZR.out.below (mv0 HWQ.out hnw).nu_below (mv0 HWQ.out hnw).size
                    have hyr : XRd w' w'.heap.size y2 := HYR.out.below (mv0 HWQ.out hnw).nu_below (mv0 HWQ.out hnw).size
                    have hya : XAt w' g2 (f2 + j * 9) y2 := HYA.out.mv (mv0 HWQ.out hnw) id
                    have : i = 0 ∨ i = 1 ∨ i = 2 ∨ i = 3 ∨ i = 4 ∨ i = 5 ∨ i = 6 := by omega
                    rcases this with rfl | rfl | rfl | rfl | rfl | rfl | rfl <;> cases ho <;> cases hd
                    · exact ite_yes (want_none rfl) (lk_ldMove (x := ⟨y2.m, ra1, rc1, wa1, wc1⟩) rfl rfl f20 (hnw.heap HBZ.out id) (fun w' hm => hK w' _ hm rfl))
                    · exact ite_yes (want_none rfl) (lk_move rfl rfl f18 (fun w' hm => hK w' _ hm rfl))
                    · exact ite_yes (want_none rfl) (lk_move rfl rfl f19 (fun w' hm => hK w' _ hm rfl))
                    · obtain ⟨⟨_, h0, rfl⟩, ⟨_, h1, rfl⟩, _⟩ := had; exact ite_yes (want_none rfl) (lk_idxMv HJN.out rfl rfl h0 h1 (fun w' hm => hK w' _ hm rfl))
                    · obtain ⟨⟨_, h0, rfl⟩, _⟩ := had; exact ite_yes (want_none rfl) (lk_loadMv rfl rfl h0 hya (fun w' hm => hK w' _ hm rfl))
                    · obtain ⟨⟨_, h0, rfl⟩, ⟨_, h1, rfl⟩, _⟩ := had; exact ite_yes (want_none rfl) (lk_rMove rfl rfl h0 h1 rfl hxr hyr (fun w' hm => hK w' _ hm rfl))
                    · obtain ⟨⟨_, h0, rfl⟩, _⟩ := had; exact ite_yes (want_none rfl) (lk_notT rfl rfl h0 (fun w' hm => hK w' _ hm rfl))
                  case l28 =>
                    intro a wv hnv hdf hsz hfr htv
                    have htm := fill_eqN (vals := fun i => ([X.val ⟨y2.m, ra1, rc1, wa1, wc1⟩, .slice (some ⟨g2, f2, none⟩) n vc2, .int .i64 (j : Int), .pointer (some ⟨g2, f2 + j * 9, none⟩), y2.val, .bool true, .bool false] : List Value).getD i undef) (by kernel_rfl) hfr (fun i p d hi hd => by
                      have hi' : i < 7 := (Array.getElem?_eq_some_iff.1 hi).1
                      obtain ⟨v, h, hv⟩ := htv i p d hi hd
                      have : i = 0 ∨ i = 1 ∨ i = 2 ∨ i = 3 ∨ i = 4 ∨ i = 5 ∨ i = 6 := by omega
                      rcases this with rfl | rfl | rfl | rfl | rfl | rfl | rfl <;> cases hi <;> cases hd <;> exact h.trans (congrArg some hv))
                    refine hKC _ _ ?_
                    rw [act_eq' htm hdf]
                    have HNV := hid (mv0 (mv0 HNQ.out HWQ.out) hnv)
                    clear htm htv hfr hdf hsz hKC hnv
                    simp only [fill, List.getD_cons_succ, List.getD_cons_zero, List.setIfInBounds_toArray, List.set_cons_succ, List.set_cons_zero]
                    go_wp2
                    go_roundw
                    case rel => exact ⟨j + 1, HJN.out, by go_num, HNV.out⟩
                    case measure => have := HJN.out; simp [intOf]; omega
              · rw [numMv_bad hbad] at hme
                subst hme
                have HZR : Hid (XRd wr wr.heap.size ⟨y2.m, ra1, rc1, wa1, wc1⟩) := hrd1
                obtain ⟨p0, p1, p2, p3, p4, p5, p6, p7, p8⟩ := hat1
                simp only at p0 p1 p2 p3 p4 p5 p6 p7 p8
                clear hrd1 htK htc
                go_upto_region 23 with fail
                clear p0 p1 p2 p3 p4 p5 p6 p7 p8
                have HBZ : Hid ((wr.alloc (.cells #[.int .i64 y2.m.proc, .int .i64 y2.m.edge, .int .i64 y2.m.wth, .int .i64 y2.m.wedge, .string y2.m.to, .int .i64 y2.m.bad, .slice ra1 y2.m.reads.length rc1, .slice wa1 y2.m.writes.length wc1, .int .u64 y2.m.turns] 44)).heap[wr.heap.size]? = some (.cells (mvCells y2.m y2.m.to (.slice ra1 y2.m.reads.length rc1) (.slice wa1 y2.m.writes.length wc1)) 44 (0, 0))) := heap_alloc_new wr _
                have HWQ : Hid (Nu wr (wr.alloc (.cells #[.int .i64 y2.m.proc, .int .i64 y2.m.edge, .int .i64 y2.m.wth, .int .i64 y2.m.wedge, .string y2.m.to, .int .i64 y2.m.bad, .slice ra1 y2.m.reads.length rc1, .slice wa1 y2.m.writes.length wc1, .int .u64 y2.m.turns] 44))) := Mv.alloc _ _ _
                obtain ⟨wA, hwA⟩ : ∃ wA, wr.alloc (.cells #[.int .i64 y2.m.proc, .int .i64 y2.m.edge, .int .i64 y2.m.wth, .int .i64 y2.m.wedge, .string y2.m.to, .int .i64 y2.m.bad, .slice ra1 y2.m.reads.length rc1, .slice wa1 y2.m.writes.length wc1, .int .u64 y2.m.turns] 44) = wA := ⟨_, rfl⟩
                rw [hwA] at HBZ HWQ ⊢
                clear hwA
                have c5 : wA.cell? ⟨wr.heap.size, 5, none⟩ = some (.int .i64 y2.m.bad) := (cells9 HBZ.out).2.2.2.2.2.1
                go_upto_region 28 with fail
                rename_i KC hKC
                refine wp_lookR (R28 (some ⟨g2, f2, none⟩) vc2 n j g2 f2 ⟨y2.m, ra1, rc1, wa1, wc1⟩ y2) R28.nu (by kernel_rfl) (by kernel_rfl) ?s28 ?l28
                case s28 =>
                  intro i o d a w' ho hd hnw hfr had Kx hK
                  have hi : i < 7 := (Array.getElem?_eq_some_iff.1 ho).1
                  have f18 := hfr 18 (by kernel_rfl)
                  have f19 := hfr 19 (by kernel_rfl)
                  have f20 := hfr 20 (by kernel_rfl)
                  have hxr : XRd w' w'.heap.size ⟨y2.m, ra1, rc1, wa1, wc1⟩ := HZR.out.below (mv0 HWQ.out hnw).nu_below (mv0 HWQ.out hnw).size
                  have hyr : XRd w' w'.heap.size y2 := HYR.out.below (mv0 HWQ.out hnw).nu_below (mv0 HWQ.out hnw).size
                  have hya : XAt w' g2 (f2 + j * 9) y2 := HYA.out.mv (mv0 HWQ.out hnw) id
                  have : i = 0 ∨ i = 1 ∨ i = 2 ∨ i = 3 ∨ i = 4 ∨ i = 5 ∨ i = 6 := by omega
                  rcases this with rfl | rfl | rfl | rfl | rfl | rfl | rfl <;> cases ho <;> cases hd
                  · exact ite_yes (want_none rfl) (lk_ldMove (x := ⟨y2.m, ra1, rc1, wa1, wc1⟩) rfl rfl f20 (hnw.heap HBZ.out id) (fun w' hm => hK w' _ hm rfl))
                  · exact ite_yes (want_none rfl) (lk_move rfl rfl f18 (fun w' hm => hK w' _ hm rfl))
                  · exact ite_yes (want_none rfl) (lk_move rfl rfl f19 (fun w' hm => hK w' _ hm rfl))
                  · obtain ⟨⟨_, h0, rfl⟩, ⟨_, h1, rfl⟩, _⟩ := had; exact ite_yes (want_none rfl) (lk_idxMv HJN.out rfl rfl h0 h1 (fun w' hm => hK w' _ hm rfl))
                  · obtain ⟨⟨_, h0, rfl⟩, _⟩ := had; exact ite_yes (want_none rfl) (lk_loadMv rfl rfl h0 hya (fun w' hm => hK w' _ hm rfl))
                  · obtain ⟨⟨_, h0, rfl⟩, ⟨_, h1, rfl⟩, _⟩ := had; exact ite_yes (want_none rfl) (lk_rMove rfl rfl h0 h1 rfl hxr hyr (fun w' hm => hK w' _ hm rfl))
                  · obtain ⟨⟨_, h0, rfl⟩, _⟩ := had; exact ite_yes (want_none rfl) (lk_notT rfl rfl h0 (fun w' hm => hK w' _ hm rfl))
                case l28 =>
                  intro a wv hnv hdf hsz hfr htv
                  have htm := fill_eqN (vals := fun i => ([X.val ⟨y2.m, ra1, rc1, wa1, wc1⟩, .slice (some ⟨g2, f2, none⟩) n vc2, .int .i64 (j : Int), .pointer (some ⟨g2, f2 + j * 9, none⟩), y2.val, .bool true, .bool false] : List Value).getD i undef) (by kernel_rfl) hfr (fun i p d hi hd => by
                    have hi' : i < 7 := (Array.getElem?_eq_some_iff.1 hi).1
                    obtain ⟨v, h, hv⟩ := htv i p d hi hd
                    have : i = 0 ∨ i = 1 ∨ i = 2 ∨ i = 3 ∨ i = 4 ∨ i = 5 ∨ i = 6 := by omega
                    rcases this with rfl | rfl | rfl | rfl | rfl | rfl | rfl <;> cases hi <;> cases hd <;> exact h.trans (congrArg some hv))
                  refine hKC _ _ ?_
                  rw [act_eq' htm hdf]
                  have HNV := hid (mv0 (mv0 HNQ.out HWQ.out) hnv)
                  clear htm htv hfr hdf hsz hKC hnv
                  simp only [fill, List.getD_cons_succ, List.getD_cons_zero, List.setIfInBounds_toArray, List.set_cons_succ, List.set_cons_zero]
                  go_wp2
                  go_roundw
                  case rel => exact ⟨j + 1, HJN.out, by go_num, HNV.out⟩
                  case measure => have := HJN.out; simp [intOf]; omega
            · have hjn' : ¬ (j : Int) < (n : Int) := by omega
              rcases Nat.eq_zero_or_pos n with hz | hz
              · have hz' : (n : Int) = 0 := by omega
                rw [hz'] at hjn'
                rw [hz] at *
                go_wp2_with fail
                refine (known18_any _).mono ?_
                rintro e wz ⟨rfl, hnz⟩
                have HNZ := hid (mv0 (mv0 HN4.out (mv0 HN13.out HNQ.out)) hnz)
                clear hnz
                go_wp2_with fail
                go_ret
                exact ⟨rfl, HNZ.out⟩
              · have hz' : ¬ (n : Int) = 0 := by omega
                have hz2 : (0 : Int) < (n : Int) := by omega
                have hn10 : (n : Int) ≤ 10000 := by have := HL10.out; have := HLN.out.2; omega
                have hiw := HIW.out.1
                rcases (HW4.out.below (mv0 HN13.out HNQ.out).nu_below (mv0 HN13.out HNQ.out).size).row with h0 | ⟨wb, wof, rfl, hwb, hit⟩
                · omega
                have cw := hit i hiw
                have HIV := hid (HWY.out _ (List.getElem_mem hiw))
                obtain ⟨v, hv⟩ : ∃ v, wy[i] = v := ⟨_, rfl⟩
                rw [hv] at cw HIV
                obtain ⟨c, hc, hcn⟩ : ∃ c : Nat, pickN v (n : Int) = (c : Int) ∧ c < n := ⟨(pickN v n).toNat, by have := pickN_lo v hz2; omega, by have := pickN_hi v hz2; have := pickN_lo v hz2; omega⟩
                rcases (HM1.out.nu HNQ.out).at_.row with h0 | ⟨g1, f1, rfl, hg1, hat1⟩
                · have := HLN.out.1; omega
                have hj1 : c < xs1.length := by have := HLN.out.1; omega
                have hj2 : c < xs2.length := by have := HLN.out.2; omega
                obtain ⟨hmem, t, htK, htc, hme⟩ := HPA.out.2 c hj1 hj2
                replace hat1 := hat1 c hj1
                obtain ⟨y1, hy1⟩ : ∃ y, xs1[c] = y := ⟨_, rfl⟩
                obtain ⟨y2, hy2⟩ : ∃ y, xs2[c] = y := ⟨_, rfl⟩
                rw [hy1] at hme hat1
                rw [hy2] at hme hmem
                have HSM2 : Hid (y2.m.to.size ≤ 1000) := HGS.out.2 _ _ hmem
                have c5 := hat1.c5
                have c4 := hat1.c4
                have hci : (c : Int) < (n : Int) := by omega
                have HPK : Hid (∀ W : World, Calls Try.prog 5 #[.int .i64 v, .int .i64 (n : Int)] W fun e w' => e = .returned (.int .i64 (c : Int)) ∧ w' = W) := fun W => by
                  have h := pick_any v (n : Int) W HIV.out.1 HIV.out.2 hz2 hn10
                  rwa [hc] at h
                have HTK := hid (And.intro htK hme)
                clear hj1 hj2 hy1 hy2 hmem htK htc hme hat1 hg1 hc hcn hit hwb hv hj
                by_cases hbad : y1.m.bad = 0
                · rw [hbad] at c5
                  have HBD := hid hbad
                  clear hbad
                  go_wp2_with fail
                  refine (HPK.out _).mono ?_
                  rintro e wz ⟨rfl, hwz⟩
                  obtain rfl := hwz.symm
                  go_wp2_with fail
                  refine (HPK.out _).mono ?_
                  rintro e wz ⟨rfl, hwz⟩
                  obtain rfl := hwz.symm
                  go_wp2
                  have hb2 : y2.m.bad = 0 := by
                    have h := HTK.out.2
                    by_cases hb : y2.m.bad = 0
                    · exact hb
                    · rw [numMv_bad hb] at h
                      rw [← h]
                      exact HBD.out
                  have hto : y1.m.to = nst t ++ y2.m.to := by rw [HTK.out.2, numMv_good hb2]
                  rw [hto]
                  go_roundw
                  case rel => exact ⟨t, y2.m.to, i + 1, by have := HTK.out.1; omega, HSM2.out, by have := HIW.out.2; omega, rfl, by go_num, mv0 HN13.out HNQ.out⟩
                  case measure => have := HIW.out.2; simp [intOf]; omega
                · have hb3 : (y1.m.bad != 0) = true := by simpa using hbad
                  go_wp2_with fail
                  refine (HPK.out _).mono ?_
                  rintro e wz ⟨rfl, hwz⟩
                  obtain rfl := hwz.symm
                  go_wp2_with fail
                  refine (known18_any _).mono ?_
                  rintro e wz ⟨rfl, hnz⟩
                  have HNZ := hid (mv0 (mv0 HN4.out (mv0 HN13.out HNQ.out)) hnz)
                  clear hnz
                  go_wp2_with fail
                  go_ret
                  exact ⟨rfl, HNZ.out⟩
        · have hiw' : (i : Int) < (wy.length : Int) := by omega
          have hi20' : ¬ (i : Int) < 20 := by omega
          go_wp2_with fail
          refine (known18_any _).mono ?_
          rintro e wz ⟨rfl, hnz⟩
          have HNZ := hid (mv0 (mv0 HN4.out HNR.out) hnz)
          clear hnz
          go_wp2_with fail
          go_ret
          exact ⟨rfl, HNZ.out⟩
      · have hiw' : ¬ (i : Int) < (wy.length : Int) := by omega
        go_wp2_with fail
        refine (known18_any _).mono ?_
        rintro e wz ⟨rfl, hnz⟩
        have HNZ := hid (mv0 (mv0 HN4.out HNR.out) hnz)
        clear hnz
        go_wp2_with fail
        go_ret
        exact ⟨rfl, HNZ.out⟩

end Go.Proofs.Ytcpgpiokjghcnaa
