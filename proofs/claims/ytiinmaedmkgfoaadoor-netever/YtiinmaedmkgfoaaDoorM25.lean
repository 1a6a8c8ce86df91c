/-
  JMay2, JMay3.
-/
import Derived.Test.YtiinmaedmkgfoaaDoorM23
import Derived.Test.YtiinmaedmkgfoaaDoorM24
/-
  Which raw processes may be: the program's processMayBe.
-/
set_option linter.unusedVariables false
set_option linter.unusedSimpArgs false
namespace Go.Proofs.YtiinmaedmkgfoaaDoor
open Go.RowKit

set_option maxHeartbeats 4000000 in
set_option maxRecDepth 20000 in
theorem proc_any (w : World) (B : Nat) (ao : Option Addr) (cap : Nat) (l : List TN) (objs : Int) (h : RowV B 4 (TNAt w B) (.slice ao l.length cap) l) : Calls Tryd.prog 39 #[.slice ao l.length cap, .int .i64 objs] w fun e w' => e = .returned (.bool (procB objs l)) ∧ w' = w := by
  obtain ⟨ao', cap', hv, hlim, hrow⟩ := h
  simp only [Value.slice.injEq] at hv
  obtain ⟨rfl, _, rfl⟩ := hv
  have HR := hid hrow
  clear hrow
  rcases Nat.lt_or_ge l.length 1 with hl | hl
  · have hl' : (l.length : Int) < 1 := by omega
    rw [procB_none hl]
    clear hl
    go_enter Tryd.func39, Tryd.ntmps39
    go_wp2
    go_ret
    exact ⟨rfl, rfl⟩
  have hl' : ¬ (l.length : Int) < 1 := by omega
  rcases Nat.lt_or_ge 60 l.length with hm | hm
  · have hm' : (60 : Int) < (l.length : Int) := by omega
    rw [procB_long hm]
    clear hm hl
    go_enter Tryd.func39, Tryd.ntmps39
    go_wp2
    go_ret
    exact ⟨rfl, rfl⟩
  have hm' : ¬ (60 : Int) < (l.length : Int) := by omega
  rw [procB_all hl hm]
  have HM := hid hm
  clear hl hm
  go_enter Tryd.func39, Tryd.ntmps39
  go_wp2
  go_loopw [17] (fun iv wr => ∃ (i : Nat), i ≤ l.length ∧ iv = .int .i64 (i : Int) ∧ Hid ((l.take i).all (tnB l.length objs) = true) ∧ Hid (wr = w)) (fun iv _ => l.length - (intOf iv).toNat)
  case atStart => exact ⟨0, Nat.zero_le _, rfl, all_zero _ _, (rfl : w = w)⟩
  case round =>
    obtain ⟨i, hi, rfl, HF, HWR⟩ := hrel
    obtain rfl := HWR.out
    rcases Nat.lt_or_ge i l.length with hlt | hge
    case inr =>
      obtain rfl : i = l.length := by omega
      have HE := hid (all_done HF.out (by omega))
      clear HF
      go_wp2
      go_ret
      exact ⟨by rw [HE.out]; rfl, rfl⟩
    have hlt' : (i : Int) < (l.length : Int) := by omega
    rcases HR.out with h0 | ⟨b, off, rfl, _, hit⟩
    · omega
    obtain ⟨⟨_, c0, xo, xc, rfl, hxl, hxr⟩, c1, c2, c3⟩ := hit i hlt
    have HLT := hid hlt
    have HMO := hid (fun hf => all_more HF.out hlt hf)
    have HBA := hid (fun hf => all_bad (f := tnB l.length objs) hlt hf)
    generalize l[i] = x at *
    clear hit hlt
    rcases Nat.lt_or_ge 1000 x.arcs.length with hbig | hsm
    · have hbig' : (1000 : Int) < (x.arcs.length : Int) := by omega
      have HE : Hid (l.all (tnB l.length objs) = false) := HBA.out (tnB_long hbig)
      clear HMO HBA hxr hbig
      go_wp2
      go_ret
      exact ⟨by rw [HE.out]; rfl, rfl⟩
    have hsm' : ¬ (1000 : Int) < (x.arcs.length : Int) := by omega
    have HXR := hid hxr
    have HSM := hid hsm
    clear hxr hsm c1 c2 c3
    go_wp2
    go_loopw [33] (fun kv wk => ∃ (k : Nat), k ≤ x.arcs.length ∧ kv = .int .i64 (k : Int) ∧ Hid ((x.arcs.take k).all (taB l.length objs) = true) ∧ Hid (wk = wr)) (fun kv _ => x.arcs.length - (intOf kv).toNat)
    case atStart => exact ⟨0, Nat.zero_le _, rfl, all_zero _ _, (rfl : wr = wr)⟩
    case round =>
      rename World => wk
      obtain ⟨k, hk, rfl, HG, HWK⟩ := hrel
      obtain rfl := HWK.out
      rcases Nat.lt_or_ge k x.arcs.length with hklt | hkge
      case inr =>
        obtain rfl : k = x.arcs.length := by omega
        have HE : Hid ((l.take (i + 1)).all (tnB l.length objs) = true) := HMO.out (by rw [tnB_arcs HSM.out]; exact all_done HG.out (by omega))
        clear HG HMO HBA
        go_wp2
        go_roundw
        case rel => exact ⟨i + 1, HLT.out, by go_num, HE.out, (by first | exact rfl | exact trivial)⟩
        case measure => have := HLT.out; simp [intOf]; omega
      have hklt' : (k : Int) < (x.arcs.length : Int) := by omega
      rcases HXR.out with h0 | ⟨ab, aoff, rfl, _, hat⟩
      · omega
      have HAT := hid (hat k hklt)
      have HKL := hid hklt
      have HKM := hid (fun hf => all_more HG.out hklt hf)
      have HKB := hid (fun hf => all_bad (f := taB l.length objs) hklt hf)
      generalize x.arcs[k] = a at *
      clear hat hklt
      cases hta : taB l.length objs a with
      | false =>
        have HE : Hid (l.all (tnB l.length objs) = false) := HBA.out (by rw [tnB_arcs HSM.out]; exact HKB.out hta)
        have HTA := hid hta
        clear hta
        go_wp2_with (go_at_call 57; refine (tarc_any _ _ _ a _ _ HAT.out).mono ?_; rw [HTA.out]; rintro e w' ⟨rfl, rfl⟩)
        go_ret
        exact ⟨by rw [HE.out]; rfl, rfl⟩
      | true =>
        have HE : Hid ((x.arcs.take (k + 1)).all (taB l.length objs) = true) := HKM.out hta
        have HTA := hid hta
        clear hta
        go_wp2_with (go_at_call 57; refine (tarc_any _ _ _ a _ _ HAT.out).mono ?_; rw [HTA.out]; rintro e w' ⟨rfl, rfl⟩)
        go_roundw
        case rel => exact ⟨k + 1, HKL.out, by go_num, HE.out, (by first | exact rfl | exact trivial)⟩
        case measure => have := HKL.out; simp [intOf]; omega

end Go.Proofs.YtiinmaedmkgfoaaDoor
/-
  Which raw processes may be: the program's threadsMayBe, CheckThreads.
-/
set_option linter.unusedVariables false
set_option linter.unusedSimpArgs false
namespace Go.Proofs.YtiinmaedmkgfoaaDoor
open Go.RowKit

theorem cells3 {w : World} {b : Nat} {t : TypeId} {v0 v1 v2 : Value} (h : w.heap[b]? = some (.cells #[v0, v1, v2] t (0, 0))) : w.cell? ⟨b, 0, none⟩ = some v0 ∧ w.cell? ⟨b, 1, none⟩ = some v1 ∧ w.cell? ⟨b, 2, none⟩ = some v2 := ⟨by rw [cell_blk h]; rfl, by rw [cell_blk h]; rfl, by rw [cell_blk h]; rfl⟩
theorem cells2 {w : World} {b : Nat} {t : TypeId} {v0 v1 : Value} (h : w.heap[b]? = some (.cells #[v0, v1] t (0, 0))) : w.cell? ⟨b, 0, none⟩ = some v0 ∧ w.cell? ⟨b, 1, none⟩ = some v1 := ⟨by rw [cell_blk h]; rfl, by rw [cell_blk h]; rfl⟩

theorem mayT_init {t : Thr} (h : 16 < t.init.length) : mayT t = false := by unfold mayT; rw [decide_eq_false (p := t.init.length ≤ 16) (by omega)]; simp
theorem mayT_procs {t : Thr} (h : 8 < t.procs.length) : mayT t = false := by unfold mayT; rw [decide_eq_false (p := t.procs.length ≤ 8) (by omega)]; simp
theorem mayT_props {t : Thr} (h : 60 < t.props.length) : mayT t = false := by unfold mayT; rw [decide_eq_false (p := t.props.length ≤ 60) (by omega)]; simp
theorem mayT_f1 {t : Thr} (h : t.init.all isV = false) : mayT t = false := by unfold mayT; rw [h]; simp
theorem mayT_f2 {t : Thr} (h : t.procs.all (procB t.init.length) = false) : mayT t = false := by unfold mayT; rw [h]; simp
theorem mayT_f3 {t : Thr} (h : t.props.all (prB t.init.length) = false) : mayT t = false := by unfold mayT; rw [h]; simp
theorem mayT_all {t : Thr} (h1 : t.init.length ≤ 16) (h2 : t.procs.length ≤ 8) (h3 : t.props.length ≤ 60) (h4 : t.init.all isV = true) (h5 : t.procs.all (procB t.init.length) = true) (h6 : t.props.all (prB t.init.length) = true) : mayT t = true := by unfold mayT; rw [h4, h5, h6]; simp [h1, h2, h3]

set_option maxHeartbeats 8000000 in
set_option maxRecDepth 40000 in
theorem threadsMayBe_any (w : World) (v0 v1 v2 : Value) (t : Thr) (h : ThrAt w w.heap.size v0 v1 v2 t) : Calls Tryd.prog 19 #[.agg #[v0, v1, v2]] w fun e w' => e = .returned (.bool (mayT t)) ∧ Nu w w' := by
  obtain ⟨⟨ia, ic, rfl, hi⟩, ⟨pa, pc, rfl, hpl, hp⟩, ⟨ra, rc, rfl, hrl, hr⟩⟩ := h
  have hil := hi.lim
  have HI := hid hi
  have HP := hid hp
  have HR := hid hr
  have HN1 : Hid (Nu w (w.alloc (.cells #[.slice ia t.init.length ic, .slice pa t.procs.length pc, .slice ra t.props.length rc] 26))) := Mv.alloc _ _ _
  have HB1 : Hid ((w.alloc (.cells #[.slice ia t.init.length ic, .slice pa t.procs.length pc, .slice ra t.props.length rc] 26)).heap[w.heap.size]? = some (.cells #[.slice ia t.init.length ic, .slice pa t.procs.length pc, .slice ra t.props.length rc] 26 (0, 0))) := heap_alloc_new w _
  clear hi hp hr
  go_enter Tryd.func19, Tryd.ntmps19
  go_upto_region 1 with fail
  generalize w.alloc (.cells #[.slice ia t.init.length ic, .slice pa t.procs.length pc, .slice ra t.props.length rc] 26) = w1 at *
  obtain ⟨d0, d1, d2⟩ := cells3 HB1.out
  rcases Nat.lt_or_ge 16 t.init.length with hb | hb
  · have hb' : (16 : Int) < (t.init.length : Int) := by omega
    have HE : Hid (mayT t = false) := mayT_init hb
    clear hb
    go_wp2
    go_ret
    exact ⟨by rw [HE.out]; rfl, HN1.out⟩
  have hb1 : ¬ (16 : Int) < (t.init.length : Int) := by omega
  rcases Nat.lt_or_ge 8 t.procs.length with hc | hc
  · have hb' : (8 : Int) < (t.procs.length : Int) := by omega
    have HE : Hid (mayT t = false) := mayT_procs hc
    clear hb hc
    go_wp2
    go_ret
    exact ⟨by rw [HE.out]; rfl, HN1.out⟩
  have hb2 : ¬ (8 : Int) < (t.procs.length : Int) := by omega
  rcases Nat.lt_or_ge 60 t.props.length with hd | hd
  · have hb' : (60 : Int) < (t.props.length : Int) := by omega
    have HE : Hid (mayT t = false) := mayT_props hd
    clear hb hc hd
    go_wp2
    go_ret
    exact ⟨by rw [HE.out]; rfl, HN1.out⟩
  have hb3 : ¬ (60 : Int) < (t.props.length : Int) := by omega
  have HL : Hid (t.init.length ≤ 16 ∧ t.procs.length ≤ 8 ∧ t.props.length ≤ 60) := ⟨hb, hc, hd⟩
  clear hb hc hd
  go_wp2
  go_loopw [32] (fun iv wr => ∃ (i : Nat), i ≤ t.init.length ∧ iv = .int .i64 (i : Int) ∧ Hid ((t.init.take i).all isV = true) ∧ Hid (wr = w1)) (fun iv _ => t.init.length - (intOf iv).toNat)
  case atStart => exact ⟨0, Nat.zero_le _, rfl, all_zero _ _, (rfl : w1 = w1)⟩
  case round =>
    obtain ⟨i, hi, rfl, HF, HWR⟩ := hrel
    obtain rfl : w1 = wr := HWR.out.symm
    rcases Nat.lt_or_ge i t.init.length with hlt | hge
    case inl =>
      have hlt' : (i : Int) < (t.init.length : Int) := by omega
      rcases (HI.out.below HN1.out.nu_below HN1.out.size).row with h0 | ⟨b, off, rfl, _, hit⟩
      · omega
      have c0 := hit i hlt
      have HLT := hid hlt
      have HMO := hid (fun hf => all_more HF.out hlt hf)
      have HBA := hid (fun hf => all_bad (f := isV) hlt hf)
      generalize t.init[i] = x at *
      clear hit hlt
      cases hv : isV x with
      | false =>
        have HE : Hid (mayT t = false) := mayT_f1 (HBA.out hv)
        have HV := hid hv
        clear hv HMO HBA
        go_wp2_with (go_at_call 38; refine (isValue_any _ _).mono ?_; rw [HV.out]; rintro e w' ⟨rfl, rfl⟩)
        go_ret
        exact ⟨by rw [HE.out]; rfl, HN1.out⟩
      | true =>
        have HE := hid (HMO.out hv)
        have HV := hid hv
        clear hv HMO HBA
        go_wp2_with (go_at_call 38; refine (isValue_any _ _).mono ?_; rw [HV.out]; rintro e w' ⟨rfl, rfl⟩)
        go_roundw
        case rel => exact ⟨i + 1, HLT.out, by go_num, HE.out, (by first | exact rfl | exact trivial)⟩
        case measure => have := HLT.out; simp [intOf]; omega
    have HA1 := hid (all_done HF.out (by omega))
    have hnl : ¬ (i : Int) < (t.init.length : Int) := by omega
    clear HF hge hi
    go_wp2
    go_loopw [43] (fun iv wr => ∃ (i : Nat), i ≤ t.procs.length ∧ iv = .int .i64 (i : Int) ∧ Hid ((t.procs.take i).all (procB t.init.length) = true) ∧ Hid (wr = w1)) (fun iv _ => t.procs.length - (intOf iv).toNat)
    case atStart => exact ⟨0, Nat.zero_le _, rfl, all_zero _ _, (rfl : w1 = w1)⟩
    case round =>
      rename World => wq
      obtain ⟨k, hk, rfl, HG, HWQ⟩ := hrel
      obtain rfl : w1 = wq := HWQ.out.symm
      rcases Nat.lt_or_ge k t.procs.length with hlt | hge
      case inl =>
        have hlt' : (k : Int) < (t.procs.length : Int) := by omega
        rcases HP.out with h0 | ⟨b, off, rfl, hbb, hit⟩
        · omega
        obtain ⟨_, c0, po, pcc, rfl, hpl2, hpr⟩ := hit k hlt
        have c0 := cell_mv HN1.out c0 id
        rw [Nat.mul_one] at c0
        have HPR : Hid (RowV w.heap.size 4 (TNAt w w.heap.size) (.slice po (t.procs[k]).length pcc) t.procs[k]) := ⟨po, pcc, rfl, hpl2, hpr⟩
        have HLT := hid hlt
        have HMO := hid (fun hf => all_more HG.out hlt hf)
        have HBA := hid (fun hf => all_bad (f := procB t.init.length) hlt hf)
        generalize t.procs[k] = l at *
        have HPA : Hid (RowV w1.heap.size 4 (TNAt w1 w1.heap.size) (.slice po l.length pcc) l) := HPR.out.mono HN1.out.size (fun _ _ _ hl h => h.below HN1.out.nu_below HN1.out.size hl)
        clear hit hlt hpr HPR
        cases hv : procB t.init.length l with
        | false =>
          have HE : Hid (mayT t = false) := mayT_f2 (HBA.out hv)
          have HV := hid hv
          clear hv HMO HBA
          go_wp2_with (go_at_call 39; refine (proc_any _ _ _ _ l _ HPA.out).mono ?_; rw [HV.out]; rintro e w' ⟨rfl, rfl⟩)
          go_ret
          exact ⟨by rw [HE.out]; rfl, HN1.out⟩
        | true =>
          have HE := hid (HMO.out hv)
          have HV := hid hv
          clear hv HMO HBA
          go_wp2_with (go_at_call 39; refine (proc_any _ _ _ _ l _ HPA.out).mono ?_; rw [HV.out]; rintro e w' ⟨rfl, rfl⟩)
          go_roundw
          case rel => exact ⟨k + 1, HLT.out, by go_num, HE.out, (by first | exact rfl | exact trivial)⟩
          case measure => have := HLT.out; simp [intOf]; omega
      have HA2 := hid (all_done HG.out (by omega))
      have hnl2 : ¬ (k : Int) < (t.procs.length : Int) := by omega
      clear HG hge hk
      go_wp2
      go_loopw [55] (fun iv wr => ∃ (i : Nat), i ≤ t.props.length ∧ iv = .int .i64 (i : Int) ∧ Hid ((t.props.take i).all (prB t.init.length) = true) ∧ Hid (Nu w1 wr)) (fun iv _ => t.props.length - (intOf iv).toNat)
      case atStart => exact ⟨0, Nat.zero_le _, rfl, all_zero _ _, Mv.refl _ _⟩
      case round =>
        rename World => wz
        obtain ⟨j, hj, rfl, HK, HNZ⟩ := hrel
        rcases Nat.lt_or_ge j t.props.length with hlt | hge
        case inr =>
          have HE : Hid (mayT t = true) := mayT_all HL.out.1 HL.out.2.1 HL.out.2.2 HA1.out HA2.out (all_done HK.out (by omega))
          have hnl3 : ¬ (j : Int) < (t.props.length : Int) := by omega
          clear HK hge hj
          go_wp2
          go_ret
          exact ⟨by rw [HE.out]; rfl, mv0 HN1.out HNZ.out⟩
        have hlt' : (j : Int) < (t.props.length : Int) := by omega
        rcases HR.out with h0 | ⟨b, off, rfl, hbb, hit⟩
        · omega
        obtain ⟨c0, c1⟩ := hit j hlt
        have c0 := cell_mv (mv0 HN1.out HNZ.out) c0 id
        have c1 := cell_mv (mv0 HN1.out HNZ.out) c1 id
        replace d0 := cell_mv HNZ.out d0 id
        have HLT := hid hlt
        have HMO := hid (fun hf => all_more HK.out hlt hf)
        have HBA := hid (fun hf => all_bad (f := prB t.init.length) hlt hf)
        generalize t.props[j] = p at *
        obtain ⟨po, pv⟩ := p
        simp only at c0 c1
        clear hit hlt
        go_upto_region 19 with fail
        have HNY : Hid (Nu w1 (wz.alloc (.cells #[.int .i64 po, .int .i64 pv] 70))) := mv0 HNZ.out (Mv.alloc _ _ _)
        have HBY : Hid ((wz.alloc (.cells #[.int .i64 po, .int .i64 pv] 70)).heap[wz.heap.size]? = some (.cells #[.int .i64 po, .int .i64 pv] 70 (0, 0))) := heap_alloc_new wz _
        generalize wz.alloc (.cells #[.int .i64 po, .int .i64 pv] 70) = wy at *
        obtain ⟨y0, y1⟩ := cells2 HBY.out
        clear c0 c1 d0
        cases hv1 : inB po t.init.length with
        | false =>
          have HE : Hid (mayT t = false) := mayT_f3 (HBA.out (by unfold prB; simp only; rw [hv1]; rfl))
          have HV := hid hv1
          clear hv1 HMO HBA
          go_wp2_with (go_at_call 40; refine (inB_any _ _ _).mono ?_; rw [HV.out]; rintro e w' ⟨rfl, rfl⟩)
          go_ret
          exact ⟨by rw [HE.out]; rfl, mv0 HN1.out HNY.out⟩
        | true =>
          cases hv2 : isV pv with
          | false =>
            have HE : Hid (mayT t = false) := mayT_f3 (HBA.out (by unfold prB; simp only; rw [hv1, hv2]; rfl))
            have HV := hid hv1
            have HV2 := hid hv2
            clear hv1 hv2 HMO HBA
            go_wp2_with (first | (go_at_call 40; refine (inB_any _ _ _).mono ?_; rw [HV.out]; rintro e w' ⟨rfl, rfl⟩) | (go_at_call 38; refine (isValue_any _ _).mono ?_; rw [HV2.out]; rintro e w' ⟨rfl, rfl⟩))
            go_ret
            exact ⟨by rw [HE.out]; rfl, mv0 HN1.out HNY.out⟩
          | true =>
            have HE := hid (HMO.out (by unfold prB; simp only; rw [hv1, hv2]; rfl))
            have HV := hid hv1
            have HV2 := hid hv2
            clear hv1 hv2 HMO HBA
            go_wp2_with (first | (go_at_call 40; refine (inB_any _ _ _).mono ?_; rw [HV.out]; rintro e w' ⟨rfl, rfl⟩) | (go_at_call 38; refine (isValue_any _ _).mono ?_; rw [HV2.out]; rintro e w' ⟨rfl, rfl⟩))
            go_roundw
            case rel => exact ⟨j + 1, HLT.out, by go_num, HE.out, HNY.out⟩
            case measure => have := HLT.out; simp [intOf]; omega

theorem checkT_any (w : World) (v0 v1 v2 : Value) (t : Thr) (h : ThrAt w w.heap.size v0 v1 v2 t) : Calls Tryd.prog 8 #[.agg #[v0, v1, v2]] w fun e w' => e = .returned (.int .i64 (if mayT t then 0 else 150)) ∧ Nu w w' := by
  obtain ⟨code, hco⟩ : ∃ code : Int, (if mayT t then (0 : Int) else 150) = code := ⟨_, rfl⟩
  rw [hco]
  have HCO := hid hco
  have H := hid h
  clear hco
  obtain ⟨⟨ia, ic, rfl, hi⟩, ⟨pa, pc, rfl, hpl, hp⟩, ⟨ra, rc, rfl, hrl, hr⟩⟩ := h
  clear hi hp hr hpl hrl
  have HN : Hid (Nu w (w.alloc (.cells #[.slice ia t.init.length ic, .slice pa t.procs.length pc, .slice ra t.props.length rc] 26))) := Mv.alloc _ _ _
  obtain ⟨c0, c1, c2⟩ := cells3 (heap_alloc_new w (.cells #[.slice ia t.init.length ic, .slice pa t.procs.length pc, .slice ra t.props.length rc] 26))
  go_enter Tryd.func8, Tryd.ntmps8
  go_upto_region 1 with fail
  generalize w.alloc (.cells #[.slice ia t.init.length ic, .slice pa t.procs.length pc, .slice ra t.props.length rc] 26) = w1 at *
  cases hm : mayT t with
  | false =>
    have HM := hid hm
    obtain rfl : (150 : Int) = code := by have := HCO.out; rwa [hm, if_neg (by simp)] at this
    clear hm HCO
    go_wp2_with (go_at_call 19; refine (threadsMayBe_any _ _ _ _ t (H.out.nu HN.out)).mono ?_; rw [HM.out]; rintro e w2 ⟨rfl, hn2⟩)
    go_ret
    exact ⟨rfl, mv0 HN.out hn2⟩
  | true =>
    have HM := hid hm
    obtain rfl : (0 : Int) = code := by have := HCO.out; rwa [hm, if_pos rfl] at this
    clear hm HCO
    go_wp2_with (go_at_call 19; refine (threadsMayBe_any _ _ _ _ t (H.out.nu HN.out)).mono ?_; rw [HM.out]; rintro e w2 ⟨rfl, hn2⟩)
    go_ret
    exact ⟨rfl, mv0 HN.out hn2⟩

end Go.Proofs.YtiinmaedmkgfoaaDoor
