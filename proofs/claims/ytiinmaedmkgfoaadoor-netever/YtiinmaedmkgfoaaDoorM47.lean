/-
  JFeet3, JMove, JMoveI.
-/
import Derived.Deep.RegionLaw
import Derived.Laws.NewBlocks
import Derived.Test.YtiinmaedmkgfoaaDoorM45
/-
  The program's feetOf: what the arcs of a process do.
-/
set_option linter.unusedVariables false
set_option linter.unusedSimpArgs false
namespace Go.Proofs.YtiinmaedmkgfoaaDoor
open Go.RowKit

/-- What all nodes that a node leads to do together. -/
def hereN (l : List TN) (ps : List (Int × Int)) : List Ft := l.map fun x => joinAll (arcsF l ps x)
def everF (Hs : List Ft) (s : Nat) : Ft := joinAll ((bitsOf s).map fun t => Hs.getD t ft0)
def everN (l : List TN) (ps : List (Int × Int)) : List Ft := (leadsN l).map (everF (hereN l ps))

/-- What feetOf leaves. -/
structure FeIs (A : World) (l : List TN) (ps : List (Int × Int)) (ga gh ge : Nat) (AV : List Value) (rows : List FR) (Z : Nat → Prop) : Prop where
  av : A.heap[ga]? = some (.cells AV.toArray 115 (0, 0))
  hs : A.heap[gh]? = some (.cells (ftflat (hereN l ps)).toArray 145 (0, 0))
  es : A.heap[ge]? = some (.cells (ftflat (everN l ps)).toArray 145 (0, 0))
  al : AV.length = l.length
  rl : rows.length = l.length
  st : ∀ j (h : j < rows.length), AV[j]? = some rows[j].val ∧ FRZ A Z rows[j] ∧ ∀ x, l[j]? = some x → rows[j].fs = arcsF l ps x
  zt : ∀ b, Z b → b < A.heap.size

/-- All of a process may be. -/
structure ProcOk (l : List TN) (ps : List (Int × Int)) (objs : Int) : Prop where
  n1 : 1 ≤ l.length
  n60 : l.length ≤ 60
  o16 : objs ≤ 16
  p60 : ps.length ≤ 60
  a1k : ∀ x ∈ l, x.arcs.length ≤ 1000
  ta : ∀ x ∈ l, ∀ a ∈ x.arcs, taB l.length objs a = true

set_option maxHeartbeats 8000000 in
set_option maxRecDepth 40000 in
theorem feetOf_any (w : World) (B : Nat) (ao : Option Addr) (cap : Nat) (l : List TN) (h : RowV B 4 (TNAt w B) (.slice ao l.length cap) l) (ra : Option Addr) (rc : Nat) (ps : List (Int × Int)) (hr : RowV B 2 (TRAt w) (.slice ra ps.length rc) ps) (hB : B ≤ w.heap.size) (objs : Int) (hok : ProcOk l ps objs) (hT : TabAt 0 Lib.deBruijn64tab w) :
    Calls Tryd.prog 45 #[.slice ao l.length cap, .slice ra ps.length rc] w fun e w' => Nu w w' ∧ ∃ ga gh ge, e = .returned (.agg #[.slice (some ⟨ga, 0, none⟩) l.length l.length, .slice (some ⟨gh, 0, none⟩) l.length l.length, .slice (some ⟨ge, 0, none⟩) l.length l.length]) ∧ ∃ AV rows Z, FeIs w' l ps ga gh ge AV rows Z ∧ w.heap.size ≤ ga ∧ w.heap.size ≤ gh ∧ w.heap.size ≤ ge ∧ ∀ b, Z b → w.heap.size ≤ b := by
  have HRN := hid h
  have HRP := hid hr
  have HOK := hid hok
  have HT := hid hT
  have HBB := hid hB
  have hn60 : (l.length : Int) ≤ 60 := by have := hok.n60; omega
  clear h hr hok hT hB
  have HN1 : Hid (Nu w (w.alloc (.cells #[.slice none 0 0, .slice none 0 0, .slice none 0 0] 117))) := Mv.alloc _ _ _
  have HB1 : Hid ((w.alloc (.cells #[.slice none 0 0, .slice none 0 0, .slice none 0 0] 117)).heap[w.heap.size]? = some (.cells #[.slice none 0 0, .slice none 0 0, .slice none 0 0] 117 (0, 0))) := heap_alloc_new w _
  have HZ1 : Hid ((w.alloc (.cells #[.slice none 0 0, .slice none 0 0, .slice none 0 0] 117)).heap.size = w.heap.size + 1) := World.size_alloc _ _
  go_enter Tryd.func45, Tryd.ntmps45
  go_upto_region 1 with fail
  generalize w.alloc (.cells #[.slice none 0 0, .slice none 0 0, .slice none 0 0] 117) = w1 at *
  obtain ⟨H, HH⟩ : ∃ H, Hid (w1.heap.size = H) := ⟨_, rfl⟩
  rename_i KC hKC
  refine wp_lookE (RFe ao l.length cap H) (EFe 18 21) (fun v u h => absurd (show (Array.replicate 12 false).getD 5 false = true from h) (by decide)) RFe.nu (by kernel_rfl) (by kernel_rfl) ?step ?last
  case step =>
    intro lb i o d a w' ho hd hn hfr had hls hli haft hE htv K hK
    have hi : i < 12 := (Array.getElem?_eq_some_iff.1 ho).1
    have f0 := hfr 0 (by kernel_rfl)
    have hsz : H ≤ w'.heap.size := by have := hn.size; have := HH.out; omega
    have hlen := HOK.out.n60
    have : i = 0 ∨ i = 1 ∨ i = 2 ∨ i = 3 ∨ i = 4 ∨ i = 5 ∨ i = 6 ∨ i = 7 ∨ i = 8 ∨ i = 9 ∨ i = 10 ∨ i = 11 := by omega
    rcases this with rfl | rfl | rfl | rfl | rfl | rfl | rfl | rfl | rfl | rfl | rfl | rfl <;> cases ho <;> cases hd
    · exact ite_yes (want_none rfl) (lk_move rfl rfl f0 (fun w' hm => hK w' _ hm rfl (hE.other (by decide) (by decide) (by decide) (by decide))))
    · obtain ⟨⟨_, h0, rfl⟩, _⟩ := had; exact ite_yes (want_none rfl) (lk_lenTN rfl rfl h0 (fun w' hm => hK w' _ hm rfl (hE.other (by decide) (by decide) (by decide) (by decide))))
    · obtain ⟨⟨_, h0, rfl⟩, _⟩ := had; exact ite_yes (want_none rfl) (lk_makeA hlen rfl rfl h0 (fun w' hm hv => hK w' _ hm (hv.low hsz) (hE.other (by decide) (by decide) (by decide) (by decide))))
    · exact ite_yes (want_none rfl) (lk_move rfl rfl f0 (fun w' hm => hK w' _ hm rfl (hE.other (by decide) (by decide) (by decide) (by decide))))
    · obtain ⟨⟨_, h0, rfl⟩, _⟩ := had; exact ite_yes (want_none rfl) (lk_lenTN rfl rfl h0 (fun w' hm => hK w' _ hm rfl (hE.other (by decide) (by decide) (by decide) (by decide))))
    · obtain ⟨⟨_, h0, rfl⟩, _⟩ := had
      exact ite_yes (want_none rfl) (lk_makeF hlen rfl rfl h0 (fun w2 hm hv => hK w2 _ hm (hv.low hsz) (fun v u _ g8 hx hy => by
        have hx' := set_in hx
        rw [getD_setN (by decide)] at g8
        rw [Array.getElem?_setIfInBounds_ne (by decide)] at hy
        obtain ⟨u', hu, g, hu2, _, hb⟩ := htv 8 _ 21 rfl g8 rfl
        rw [hy] at hu
        cases hu
        rw [hx', hu2]
        intro e
        simp only [Value.ownBlock, Option.some.injEq] at e
        have := lt_of_block hb
        omega)))
    · exact ite_yes (want_none rfl) (lk_move rfl rfl f0 (fun w' hm => hK w' _ hm rfl (hE.other (by decide) (by decide) (by decide) (by decide))))
    · obtain ⟨⟨_, h0, rfl⟩, _⟩ := had; exact ite_yes (want_none rfl) (lk_lenTN rfl rfl h0 (fun w' hm => hK w' _ hm rfl (hE.other (by decide) (by decide) (by decide) (by decide))))
    · obtain ⟨⟨_, h0, rfl⟩, _⟩ := had
      exact ite_yes (want_none rfl) (lk_makeF hlen rfl rfl h0 (fun w2 hm hv => hK w2 _ hm (hv.low hsz) (fun v u g5 _ hx hy => by
        have hy' := set_in hy
        rw [getD_setN (by decide)] at g5
        rw [Array.getElem?_setIfInBounds_ne (by decide)] at hx
        obtain ⟨u', hu, g, hu2, _, hb⟩ := htv 5 _ 18 rfl g5 rfl
        rw [hx] at hu
        cases hu
        rw [hy', hu2]
        intro e
        simp only [Value.ownBlock, Option.some.injEq] at e
        have := lt_of_block hb
        omega)))
    · obtain ⟨⟨x, h0, hx⟩, ⟨y, h1, hy⟩, ⟨z, h2, hz⟩, _⟩ := had
      have hne := hE y z (haft ⟨5, .data⟩ (by simp) rfl) (haft ⟨8, .data⟩ (by simp) rfl) h1 h2
      exact ite_yes (want_none rfl) (lk_buildFe (SlA.sl hx) (SlF.sl hy) (SlF.sl hz) rfl rfl h0 h1 h2 (fun w' hm => hK w' _ hm ⟨x, y, z, rfl, SlA.nu hx hm, SlF.nu hy hm, SlF.nu hz hm, hne⟩ (hE.other (by decide) (by decide) (by decide) (by decide))))
    · exact ite_yes (want_none rfl) (lk_allocFe rfl rfl (hK _ _ (Mv.alloc _ _ _) ⟨_, rfl, hsz, heap_alloc_new _ _⟩ (hE.other (by decide) (by decide) (by decide) (by decide))))
  case last =>
    intro lb p a w2 ho hall hE hn2 hdf hsz hfr htv
    cases ho
    obtain ⟨v2, t2, hv2⟩ := htv 2 _ 15 rfl rfl
    obtain ⟨v5, t5, hv5⟩ := htv 5 _ 18 rfl rfl
    obtain ⟨v8, t8, hv8⟩ := htv 8 _ 21 rfl rfl
    obtain ⟨_, t9, _, _, _, rfl, ⟨ga, rfl, hga, ba⟩, ⟨gh, rfl, hgh, bh⟩, ⟨ge, rfl, hge, be⟩, hne⟩ := htv 9 _ 22 rfl rfl
    obtain ⟨_, t10, fb, rfl, hfb, bf⟩ := htv 10 _ 5 rfl rfl
    have htm := fill_eq (vals := fun i => ([.slice ao l.length cap, .int .i64 (l.length : Int), v2, .slice ao l.length cap, .int .i64 (l.length : Int), v5, .slice ao l.length cap, .int .i64 (l.length : Int), v8, .agg #[.slice (some ⟨ga, 0, none⟩) l.length l.length, .slice (some ⟨gh, 0, none⟩) l.length l.length, .slice (some ⟨ge, 0, none⟩) l.length l.length], .pointer (some ⟨fb, 0, none⟩)] : List Value).getD i undef) (by kernel_rfl) hfr (fun i p d hi hd => by
      have hi' : i < 12 := (Array.getElem?_eq_some_iff.1 hi).1
      obtain ⟨v, h, hv⟩ := htv i p d hi hd
      have : i = 0 ∨ i = 1 ∨ i = 2 ∨ i = 3 ∨ i = 4 ∨ i = 5 ∨ i = 6 ∨ i = 7 ∨ i = 8 ∨ i = 9 ∨ i = 10 ∨ i = 11 := by omega
      rcases this with rfl | rfl | rfl | rfl | rfl | rfl | rfl | rfl | rfl | rfl | rfl | rfl <;> cases hi <;> cases hd <;> first | exact t2 | exact t5 | exact t8 | exact t9 | exact t10 | exact h.trans (congrArg some hv))
    refine lk_storeFe rfl rfl t10 t9 bf (fun w3 b3 m3 => ?_)
    refine hKC _ _ ?_
    have hgne : gh ≠ ge := fun e => hne (by rw [e])
    have hfa : ga ≠ fb := fun e => by rw [e, bf] at ba; simp at ba
    have hfh : gh ≠ fb := fun e => by rw [e, bf] at bh; simp at bh
    have hfe : ge ≠ fb := fun e => by rw [e, bf] at be; simp at be
    have HFO0 : Hid (FO H w3 fb ga gh ge l.length (List.replicate l.length (.slice none 0 0)) (List.replicate l.length ft0) [] (fun _ => False)) := ⟨⟨b3, m3.heap ba hfa, m3.heap bh hfh, m3.heap be hfe, by simp, by simp, by simp, hgne⟩, ⟨fun j hj => absurd hj (by simp), fun b hb => hb.elim⟩, fun j _ hj => ⟨by simp [hj], by simp [hj]⟩, Nat.zero_le _⟩
    have HN3 : Hid (Nu w1 w3) := hn2.trans m3 (fun x hx => .inr (by have : x = fb := hx; have := HH.out; omega))
    have HGE : Hid (H ≤ fb ∧ H ≤ ga ∧ H ≤ gh ∧ H ≤ ge) := ⟨hfb, hga, hgh, hge⟩
    rw [act_eq' htm hdf]
    clear htm hdf hn2 hsz hfr htv t2 t5 t8 t9 t10 hv2 hv5 hv8 b3 m3 hKC bf ba bh be hga hgh hge hfb hgne hfa hfh hfe hall hE hne
    simp only [fill, List.getD_cons_succ, List.getD_cons_zero, List.setIfInBounds_toArray, List.set_cons_succ, List.set_cons_zero]
    go_wp2
    go_loopw [25] (fun iv wr => ∃ (rows : List FR) (AV : List Value) (Hs : List Ft) (Z : Nat → Prop), rows.length ≤ l.length ∧ iv = .int .i64 (rows.length : Int) ∧ Hid (FO H wr fb ga gh ge l.length AV Hs rows Z) ∧ Hid (Nu w1 wr) ∧ Hid (∀ j (h : j < rows.length) x, l[j]? = some x → rows[j].fs = arcsF l ps x) ∧ Hid (∀ b, Z b → H ≤ b)) (fun iv _ => l.length - (intOf iv).toNat)
    case atStart => exact ⟨[], _, _, _, Nat.zero_le _, rfl, HFO0.out, HN3.out, fun j hj => absurd hj (by simp), fun b hb => hb.elim⟩
    case round =>
      obtain ⟨rows, AV, Hs, Z, hrl, rfl, HFO, HNR, HRS, HZH⟩ := hrel
      clear HFO0 HN3
      rcases Nat.lt_or_ge rows.length l.length with hlt | hge
      case inr =>
        have HHS : Hid (Hs = hereN l ps) := by
          apply List.ext_getElem?
          intro j
          rcases Nat.lt_or_ge j l.length with hj | hj
          · have hj' : j < rows.length := by omega
            rw [(HFO.out.fz.st j hj').2.2, HRS.out j hj' _ (List.getElem?_eq_getElem hj), hereN, List.getElem?_map, List.getElem?_eq_getElem hj]
            rfl
          · rw [List.getElem?_eq_none (by rw [HFO.out.f3.hl]; exact hj), List.getElem?_eq_none (by rw [hereN, List.length_map]; exact hj)]
        have hrn : rows.length = l.length := by omega
        have HRNL := hid hrn
        have hge' : ¬ (rows.length : Int) < (l.length : Int) := by omega
        have HF3 : Hid (F3 wr fb ga gh ge l.length AV (hereN l ps) (List.replicate l.length ft0)) := by rw [← HHS.out]; exact HFO.out.f3
        have HFZ : Hid (FZ wr gh ge AV (hereN l ps) rows Z) := by rw [← HHS.out]; exact HFO.out.fz
        have HNWR : Hid (Nu w wr) := mv0 HN1.out HNR.out
        have HRNR : Hid (RowV B 4 (TNAt wr B) (.slice ao l.length cap) l) := HRN.out.mono (Nat.le_refl B) (fun b o x hb h => TNAt.below h ((HNWR.out.nu_below).mono HBB.out) (Nat.le_refl B) hb)
        have HXA : Hid (∀ x ∈ l, ∀ a ∈ x.arcs, 0 ≤ a.to ∧ a.to < (l.length : Int)) := fun x hx a ha => (taB_parts (HOK.out.ta x hx a ha)).2.2.2.1
        have hnn : (rows.length : Int) = (l.length : Int) := by omega
        rw [hnn]
        clear hge hrl HFO HHS hrn hge' hnn
        have hself : ¬ (l.length : Int) < (l.length : Int) := by omega
        go_wp2_with (go_at_call 60; refine (leads_any wr B ao cap l HRNR.out HOK.out.n1 HOK.out.n60 HOK.out.a1k HXA.out).mono ?_; rintro e wl ⟨hnl, g, rfl, hgl, hbl⟩; have HNL := hid hnl; have HBL := hid hbl; have HGL := hid hgl; clear hnl hbl hgl)
        have HN4 : Hid (Nu w1 wl) := mv0 HNR.out HNL.out
        have HF34 := hid (HF3.out.nu HNL.out)
        have HFZ4 := hid (HFZ.out.mv HNL.out (fun _ _ => id))
        have HGN : Hid (g ≠ ge) := fun e => by have h1 := lt_of_block HF3.out.es; have := HGL.out; omega
        clear HF3 HFZ HNR HNL HNWR HRNR
        go_loopw [64] (fun iv wq => ∃ (i : Nat) (Es : List Ft), i ≤ l.length ∧ iv = .int .i64 (i : Int) ∧ Hid (F3 wq fb ga gh ge l.length AV (hereN l ps) Es) ∧ Hid (FZ wq gh ge AV (hereN l ps) rows Z) ∧ Hid (∀ j, j < l.length → Es[j]? = if j < i then (everN l ps)[j]? else some ft0) ∧ Hid (wq.heap[g]? = some (.cells (u64s (leadsN l)).toArray 39 (0, 0))) ∧ Hid (Nu w1 wq)) (fun iv _ => l.length - (intOf iv).toNat)
        case atStart => exact ⟨0, _, Nat.zero_le _, rfl, HF34.out, HFZ4.out, fun j hj => by simp [hj], HBL.out, HN4.out⟩
        case round =>
          rename World => wq
          obtain ⟨i, Es, hi, rfl, HF3, HFZ, HES, HBG, HNQ⟩ := hrel
          clear HF34 HFZ4 HBL HN4
          rcases Nat.lt_or_ge i l.length with hlt | hge
          case inr =>
            obtain rfl : i = l.length := by omega
            have HEE : Hid (Es = everN l ps) := by
              apply List.ext_getElem?
              intro j
              rcases Nat.lt_or_ge j l.length with hj | hj
              · rw [HES.out j hj, if_pos hj]
              · rw [List.getElem?_eq_none (by rw [HF3.out.el]; exact hj), List.getElem?_eq_none (by rw [everN, List.length_map, leadsN_len]; exact hj)]
            have HRX := hid (HNQ.out.heap HB1.out id)
            obtain ⟨r0, r1, r2⟩ := cells3 HRX.out
            obtain ⟨d0, d1, d2⟩ := cells3 HF3.out.fbx
            have z0 := free_blk HRX.out 0
            have z1 := free_blk HRX.out 1
            have z2 := free_blk HRX.out 2
            clear hge hi HES
            go_wp2
            have hs3 := set3 (v0 := .slice (some ⟨ga, 0, none⟩) l.length l.length) (v1 := .slice (some ⟨gh, 0, none⟩) l.length l.length) (v2 := .slice (some ⟨ge, 0, none⟩) l.length l.length) HRX.out
            refine bodyPost_ret (results_cell_row rfl _ _ w.heap.size 117 _ (0, 0) _ rfl hs3.1 Tryd.underlying117 rfl (by kernel_rfl)) rfl ?_
            have hH := HGE.out
            have h1 := HH.out
            have h2 := HZ1.out
            refine ⟨(mv0 HN1.out HNQ.out).trans hs3.2 (fun q hq => .inr (by have : q = w.heap.size := hq; omega)), ga, gh, ge, rfl, AV, rows, Z, ⟨hs3.2.heap HF3.out.av (by omega), hs3.2.heap HF3.out.hs (by omega), by rw [← HEE.out]; exact hs3.2.heap HF3.out.es (by omega), HF3.out.al, HRNL.out, fun j hj => ?_, fun b hb => ?_⟩, by omega, by omega, by omega, fun b hb => by have := HZH.out b hb; omega⟩
            · have := HFZ.out.st j hj
              refine ⟨this.1, this.2.1.mv hs3.2 (fun b hb e => ?_) (fun _ h => h), HRS.out j hj⟩
              obtain ⟨_, _, cs, hc⟩ := HFZ.out.zt b hb
              have e' : b = w.heap.size := e
              rw [e', HRX.out] at hc
              simp at hc
            · obtain ⟨_, _, cs, hc⟩ := HFZ.out.zt b hb
              exact Nat.lt_of_lt_of_le (lt_of_block hc) hs3.2.size
          have hlt' : (i : Int) < (l.length : Int) := by omega
          have HIL := hid hlt
          have HLL : Hid ((leadsN l).length = l.length) := leadsN_len l
          have qg : wq.cell? ⟨g, i, none⟩ = some (.int .u64 ((leadsN l).getD i 0 : Int)) := by rw [cell_blk HBG.out, List.getElem?_toArray]; exact u64s_get _ (by rw [HLL.out]; exact hlt)
          have HSB : Hid ((leadsN l).getD i 0 < 2 ^ l.length) := (leadsN_lt HXA.out).get i
          have HEV : Hid ((everN l ps)[i]? = some (everF (hereN l ps) ((leadsN l).getD i 0))) := by
            show _ = _
            rw [everN, List.getElem?_map, List.getElem?_eq_getElem (by rw [HLL.out]; exact hlt), List.getD_eq_getElem?_getD, List.getElem?_eq_getElem (by rw [HLL.out]; exact hlt)]
            rfl
          obtain ⟨x, HX⟩ : ∃ x, Hid ((leadsN l).getD i 0 = x) := ⟨_, rfl⟩
          rw [HX.out] at qg HSB HEV
          have HXB : Hid (x < 18446744073709551616) := Nat.lt_of_lt_of_le HSB.out (Nat.le_trans (Nat.pow_le_pow_right (by decide) HOK.out.n60) (by decide))
          have HTQ := hid (tab_nu HT.out (mv0 HN1.out HNQ.out))
          clear hlt hi
          go_upto_region 17 with (go_at_call 61; refine (listed_any x HXB.out wq HTQ.out).mono ?_; rintro e wl2 ⟨hnl, la, lc, rfl, hown⟩; have HNL := hid hnl; have HOW := hid hown; clear hnl hown)
          have HNQ2 : Hid (Nu w1 wl2) := mv0 HNQ.out HNL.out
          have HFT0 : Hid (wl2.heap[ge]? = some (.cells (ftflat Es).toArray 145 (0, 0))) := HNL.out.heap HF3.out.es id
          have HF32 := hid (HF3.out.nu HNL.out)
          have HFZ2 := hid (HFZ.out.mv HNL.out (fun _ _ => id))
          have HBG2 : Hid (wl2.heap[g]? = some (.cells (u64s (leadsN l)).toArray 39 (0, 0))) := HNL.out.heap HBG.out id
          have HSH : Hid (∀ f ∈ hereN l ps, f.Small) := fun f hf => by
            obtain ⟨y, hy, rfl⟩ := List.mem_map.1 hf
            refine joinAll_small (fun f hf => ?_)
            obtain ⟨a', ha', rfl⟩ := List.mem_map.1 hf
            exact foot_small HOK.out.p60 _ _ HOK.out.o16 (HOK.out.ta y hy a' ha')
          have HGS : Hid (∀ t, ((hereN l ps).getD t ft0).Small) := fun t => by
            rw [List.getD_eq_getElem?_getD]
            cases ht : (hereN l ps)[t]? with
            | none => exact small0
            | some f => exact HSH.out f (List.mem_of_getElem? ht)
          have HBT : Hid (∀ t ∈ bitsOf x, t < l.length) := fun t ht => by
            have h1 := (bitsOf_mem HXB.out t ht).1
            rcases Nat.lt_or_ge t l.length with h | h
            · exact h
            · rw [Nat.testBit_lt_two_pow (Nat.lt_of_lt_of_le HSB.out (Nat.pow_le_pow_right (by decide) h))] at h1
              cases h1
          have hbl : ((bitsOf x).length : Int) ≤ 17592186044416 := by have := HOW.out.lm; rw [ints_length] at this; exact this
          clear HF3 HFZ HBG HNQ HNL qg HTQ
          go_wp2
          go_loopw [72] (fun kv wk => ∃ (k : Nat) (Fs : List Ft), k ≤ (bitsOf x).length ∧ kv = .int .i64 (k : Int) ∧ Hid (F3 wk fb ga gh ge l.length AV (hereN l ps) Fs) ∧ Hid (FZ wk gh ge AV (hereN l ps) rows Z) ∧ Hid ((∀ j, j ≠ i → Fs[j]? = Es[j]?) ∧ Fs[i]? = some (joinAll (((bitsOf x).take k).map fun t => (hereN l ps).getD t ft0))) ∧ Hid (Mv (· = ge) wl2 wk)) (fun kv _ => (bitsOf x).length - (intOf kv).toNat)
          case atStart => exact ⟨0, Es, Nat.zero_le _, rfl, HF32.out, HFZ2.out, ⟨fun _ _ => rfl, by rw [HES.out i HIL.out, if_neg (Nat.lt_irrefl _)]; rfl⟩, Mv.refl _ _⟩
          case round =>
            rename World => wk
            obtain ⟨k, Fs, hk, rfl, HF3, HFZ, HFS, HMK⟩ := hrel
            clear HF32 HFZ2
            have HN1K : Hid (Nu w1 wk) := HNQ2.out.trans HMK.out (fun q hq => .inr (by have : q = ge := hq; have := HGE.out.2.2.2; have := HH.out; omega))
            rcases Nat.lt_or_ge k (bitsOf x).length with hklt | hkge
            case inr =>
              obtain rfl : k = (bitsOf x).length := by omega
              have HEN : Hid (∀ j, j < l.length → Fs[j]? = if j < i + 1 then (everN l ps)[j]? else some ft0) := fun j hj => by
                by_cases hji : j = i
                · subst hji
                  rw [HFS.out.2, List.take_length, if_pos (by omega), HEV.out]
                  rfl
                · rw [HFS.out.1 j hji, HES.out j hj]
                  by_cases h1 : j < i
                  · rw [if_pos h1, if_pos (by omega)]
                  · rw [if_neg h1, if_neg (by omega)]
              have HBGK : Hid (wk.heap[g]? = some (.cells (u64s (leadsN l)).toArray 39 (0, 0))) := HMK.out.heap HBG2.out HGN.out
              have hkk : ¬ ((bitsOf x).length : Int) < ((bitsOf x).length : Int) := by omega
              clear hkge hk
              go_wp2
              go_roundw
              case rel => exact ⟨i + 1, Fs, HIL.out, by go_num, HF3.out, HFZ.out, HEN.out, HBGK.out, HN1K.out⟩
              case measure => have := HIL.out; simp [intOf]; omega
            have hklt' : (k : Int) < ((bitsOf x).length : Int) := by omega
            have HKL := hid hklt
            rcases HOW.out.row with h0 | ⟨lb, cs, rfl, hlb, hlc, hls, hli⟩
            · have := HOW.out.len; rw [ints_length] at this; omega
            obtain ⟨t, HTK⟩ : ∃ t, Hid ((bitsOf x)[k]'hklt = t) := ⟨_, rfl⟩
            have HTM : Hid (t < l.length) := HBT.out t (by rw [← HTK.out]; exact List.getElem_mem hklt)
            have c0 : wk.cell? ⟨lb, k, none⟩ = some (.int .i64 (t : Int)) := by
              refine cell_mv HMK.out ?_ (fun e => ?_)
              · have h1 := hli k (by rw [ints_length]; exact hklt)
                rw [cell_blk hlc, h1]
                simp only [ints, List.getElem_map, HTK.out]
              · have e' : lb = ge := e
                have h6 := HFT0.out
                rw [← e', hlc] at h6
                simp at h6
            have htl : (t : Int) < (l.length : Int) := by have := HTM.out; omega
            have HTN : Hid ((bitsOf x).take (k + 1) = (bitsOf x).take k ++ [t]) := by
              show _ = _
              rw [List.take_add_one, List.getElem?_eq_getElem hklt, HTK.out]
              rfl
            clear hklt hli hls hlc hlb HTK
            obtain ⟨d0, d1, d2⟩ := cells3 HF3.out.fbx
            have hsl : i < Fs.length := by rw [HF3.out.el]; exact HIL.out
            have hfe : Fs[i]'hsl = joinAll (((bitsOf x).take k).map fun t => (hereN l ps).getD t ft0) := by
              have := HFS.out.2
              rw [List.getElem?_eq_getElem hsl] at this
              exact Option.some.inj this
            have htl2 : t < (hereN l ps).length := by rw [hereN, List.length_map]; exact HTM.out
            have hhe : (hereN l ps)[t]'htl2 = (hereN l ps).getD t ft0 := by rw [List.getD_eq_getElem?_getD, List.getElem?_eq_getElem htl2]; rfl
            have HJ := hid (fun (W : World) (hn : Nu wk W) => join_any W ge (i * 3) gh (t * 3) (joinAll (((bitsOf x).take k).map fun t => (hereN l ps).getD t ft0)) ((hereN l ps).getD t ft0) _ (HF3.out.nu hn).es (by rw [← hfe]; exact row_ft (HF3.out.nu hn).es hsl) (by rw [← hhe]; exact row_ft (HF3.out.nu hn).hs htl2) HF3.out.ne (joinAll_small (fun f hf => by obtain ⟨q, _, rfl⟩ := List.mem_map.1 hf; exact HGS.out q)) (HGS.out t))
            clear hfe hhe htl2
            have HSL := hid hsl
            clear hsl
            go_upto_region 19 with fail
            go_region_with (go_at_call 59; refine (HJ.out _ (by first | exact Mv.drew _ _ | exact Mv.refl _ _)).mono ?_; rintro e w8 ⟨rfl, hw8⟩; have HW8 : Hid (WrJ wk w8 ge (i * 3) 3 145 _) := (by first | exact hw8.drw | exact hw8); clear hw8)
            all_goals
              have HF38 : Hid (F3 w8 fb ga gh ge l.length AV (hereN l ps) (Fs.set i ((joinAll (((bitsOf x).take k).map fun t => (hereN l ps).getD t ft0)).join ((hereN l ps).getD t ft0)))) := by
                obtain ⟨t1, t2, t3, t4, t5⟩ := HF3.out.tys
                exact ⟨HW8.out.mv.heap HF3.out.fbx t3, HW8.out.mv.heap HF3.out.av t5, HW8.out.mv.heap HF3.out.hs HF3.out.ne, row_wr HF3.out.es HSL.out HW8.out, HF3.out.al, HF3.out.hl, by rw [List.length_set]; exact HF3.out.el, HF3.out.ne⟩
              have HFZ8 := hid (HFZ.out.mv HW8.out.mv (fun b hb e => (HFZ.out.zt b hb).2.1 e))
              have HFS8 : Hid ((∀ j, j ≠ i → (Fs.set i ((joinAll (((bitsOf x).take k).map fun t => (hereN l ps).getD t ft0)).join ((hereN l ps).getD t ft0)))[j]? = Es[j]?) ∧ (Fs.set i ((joinAll (((bitsOf x).take k).map fun t => (hereN l ps).getD t ft0)).join ((hereN l ps).getD t ft0)))[i]? = some (joinAll (((bitsOf x).take (k + 1)).map fun t => (hereN l ps).getD t ft0))) := by
                refine ⟨fun j hj => ?_, ?_⟩
                · rw [List.getElem?_set_ne (fun e => hj e.symm)]
                  exact HFS.out.1 j hj
                · rw [List.getElem?_set_self HSL.out, HTN.out, List.map_append, List.map_singleton, joinAll_snoc]
              have HMK8 : Hid (Mv (· = ge) wl2 w8) := HMK.out.trans HW8.out.mv (fun q hq => .inl hq)
              clear HF3 HFZ HFS HMK HW8 HJ d0 d1 d2 c0
              go_wp2
              go_roundw
              case rel => exact ⟨k + 1, _, HKL.out, by go_num, HF38.out, HFZ8.out, HFS8.out, HMK8.out⟩
              case measure => have := HKL.out; simp [intOf]; omega
      have hlt' : (rows.length : Int) < (l.length : Int) := by omega
      have HLT := hid hlt
      have HNWR : Hid (Nu w wr) := mv0 HN1.out HNR.out
      obtain ⟨x, HX⟩ : ∃ x, Hid (l[rows.length]? = some x) := ⟨_, List.getElem?_eq_getElem hlt⟩
      have HXM : Hid (x ∈ l) := List.mem_of_getElem? HX.out
      have HRNW := hid (fun (W : World) (hn : Nu w W) => HRN.out.mono (Nat.le_refl B) (fun b o x hb h => TNAt.below h ((hn.nu_below).mono HBB.out) (Nat.le_refl B) hb))
      have HRPW := hid (fun (W : World) (hn : Nu w W) => HRP.out.mono (Nat.le_refl B) (fun b o p hb (h : TRAt w b o p) => (⟨cell_mv hn h.1 id, cell_mv hn h.2 id⟩ : TRAt W b o p)))
      have hrn := HRNW.out wr HNWR.out
      obtain ⟨ao', cap', hv, _, hrow⟩ := hrn
      simp only [Value.slice.injEq] at hv
      obtain ⟨rfl, _, rfl⟩ := hv
      rcases hrow with h0 | ⟨b, off, rfl, hb, hit⟩
      · omega
      obtain ⟨⟨_, c0, xo, xc, rfl, hxl, hxr⟩, kk1, kk2, kk3⟩ := hit rows.length hlt
      clear kk1 kk2 kk3
      have hxe : l[rows.length]'hlt = x := by have := HX.out; rw [List.getElem?_eq_getElem hlt] at this; exact Option.some.inj this
      rw [hxe] at c0
      have HA1K : Hid (x.arcs.length ≤ 1000) := HOK.out.a1k x HXM.out
      have hax : (x.arcs.length : Int) ≤ 1000 := by have := HA1K.out; omega
      have HFI0 : Hid (FI H wr fb ga gh ge l.length AV Hs rows Z none 0 [] ft0) := HFO.out.start hlt
      clear hit hxr hxe hlt hrl hxl HFO
      go_wp2
      go_loopw [34] (fun kv wk => ∃ (k : Nat) (va : Option Addr) (vac : Nat) (fs : List Ft) (AV : List Value) (Hs : List Ft), k ≤ x.arcs.length ∧ kv = .int .i64 (k : Int) ∧ Hid (fs = (arcsF l ps x).take k) ∧ Hid (FI H wk fb ga gh ge l.length AV Hs rows Z va vac fs (joinAll fs)) ∧ Hid (Nu w1 wk)) (fun kv _ => x.arcs.length - (intOf kv).toNat)
      case atStart => exact ⟨0, none, 0, [], AV, Hs, Nat.zero_le _, rfl, rfl, HFI0.out, HNR.out⟩
      case round =>
        rename World => wk
        obtain ⟨k, va, vac, fs, AV, Hs, hk, rfl, HFS, HFI, HNK⟩ := hrel
        clear HFI0
        have hfl : fs.length = k := by rw [HFS.out, List.length_take, arcsF, List.length_map]; omega
        rcases Nat.lt_or_ge k x.arcs.length with hklt | hkge
        case inr =>
          obtain rfl : k = x.arcs.length := by omega
          have HFE : Hid (fs = arcsF l ps x) := by have := HFS.out; rwa [List.take_of_length_le (by rw [arcsF, List.length_map]; exact Nat.le_refl _)] at this
          have HRE : Hid (∀ j (h : j < (rows ++ [(⟨fs, va, vac⟩ : FR)]).length) y, l[j]? = some y → (rows ++ [(⟨fs, va, vac⟩ : FR)])[j].fs = arcsF l ps y) := fun j hj y hy => by
            rcases Nat.lt_or_ge j rows.length with hjl | hjg
            · rw [List.getElem_append_left hjl]; exact HRS.out j hjl y hy
            · obtain rfl : j = rows.length := by simp at hj; omega
              rw [List.getElem_append_right (Nat.le_refl _)]
              simp only [Nat.sub_self, List.getElem_cons_zero]
              rw [HX.out] at hy
              cases hy
              exact HFE.out
          have hkk : ¬ (x.arcs.length : Int) < (x.arcs.length : Int) := by omega
          have hlen : (rows ++ [(⟨fs, va, vac⟩ : FR)]).length = rows.length + 1 := by simp
          clear hkge hk hfl
          go_wp2
          go_roundw
          case rel => exact ⟨_, AV, Hs, _, by rw [hlen]; exact HLT.out, by rw [hlen]; go_num, HFI.out.done, HNK.out, HRE.out, fun b hb => hb.elim (HZH.out b) (fun e => (row_blk HFI.out.row e).1)⟩
          case measure => have := HLT.out; simp [intOf]; omega
        have hklt' : (k : Int) < (x.arcs.length : Int) := by omega
        have HKL := hid hklt
        obtain ⟨a, HA⟩ : ∃ a, Hid (x.arcs[k]? = some a) := ⟨_, List.getElem?_eq_getElem hklt⟩
        have HTA : Hid (taB l.length objs a = true) := HOK.out.ta x HXM.out a (List.mem_of_getElem? HA.out)
        obtain ⟨_, _, _, hto, _⟩ := taB_parts HTA.out
        have hyi : a.to.toNat < l.length := by omega
        obtain ⟨f, HF⟩ : ∃ f, Hid (footN ps x (l.getD a.to.toNat default) a = f) := ⟨_, rfl⟩
        have HFSM : Hid f.Small := by rw [← HF.out]; exact foot_small HOK.out.p60 _ _ HOK.out.o16 HTA.out
        have HFN : Hid (fs ++ [f] = (arcsF l ps x).take (k + 1)) := by
          show _ = _
          rw [List.take_add_one, ← HFS.out, arcsF, List.getElem?_map, HA.out, ← HF.out]
          rfl
        have HFSA : Hid (∀ f ∈ fs, f.Small) := fun f hf => by
          rw [HFS.out] at hf
          have := List.mem_of_mem_take hf
          obtain ⟨a', ha', rfl⟩ := List.mem_map.1 this
          exact foot_small HOK.out.p60 _ _ HOK.out.o16 (HOK.out.ta x HXM.out a' ha')
        have HNWK : Hid (Nu w wk) := mv0 HN1.out HNK.out
        have HCF : Hid (Calls Tryd.prog 58 #[.slice (some ⟨b, off, none⟩) l.length cap, .slice ra ps.length rc, .int .i64 (rows.length : Int), .int .i64 (k : Int)] wk fun e w' => e = .returned (.agg #[.int .u64 (f.r : Int), .int .u64 (f.w : Int), .int .u64 (f.t : Int)]) ∧ Nu wk w') := by
          have := footOf_any wk B (some ⟨b, off, none⟩) cap l (HRNW.out wk HNWK.out) ra rc ps (HRPW.out wk HNWK.out) HOK.out.p60 rows.length k x a HX.out HA.out objs HOK.out.o16 HTA.out HOK.out.n60 HA1K.out (l.getD a.to.toNat default) (by rw [List.getD_eq_getElem?_getD, List.getElem?_eq_getElem hyi]; rfl)
          rw [HF.out] at this
          exact this
        have HFL := hid hfl
        clear hto hyi hklt hk c0 hfl
        go_upto_region 9 with (go_at_call 58; refine HCF.out.mono ?_; rintro e wf ⟨rfl, hnf⟩; have HNF := hid hnf; clear hnf)
        have HN6 : Hid (Nu w1 (wf.alloc (.cells #[.int .u64 (f.r : Int), .int .u64 (f.w : Int), .int .u64 (f.t : Int)] 145))) := mv0 HNK.out (mv0 HNF.out (Mv.alloc _ _ _))
        have HBX : Hid ((wf.alloc (.cells #[.int .u64 (f.r : Int), .int .u64 (f.w : Int), .int .u64 (f.t : Int)] 145)).heap[wf.heap.size]? = some (.cells #[.int .u64 (f.r : Int), .int .u64 (f.w : Int), .int .u64 (f.t : Int)] 145 (0, 0))) := heap_alloc_new wf _
        have HFIF := hid (HFI.out.nu HNF.out)
        have HFI6 : Hid (FI H (wf.alloc (.cells #[.int .u64 (f.r : Int), .int .u64 (f.w : Int), .int .u64 (f.t : Int)] 145)) fb ga gh ge l.length AV Hs rows Z va vac fs (joinAll fs)) := HFIF.out.nu (Mv.alloc _ _ _)
        have HXN : Hid (wf.heap.size ≠ gh ∧ wf.heap.size ≠ ga ∧ ¬ (Value.slice va fs.length vac).ownBlock = some wf.heap.size) := ⟨by have := lt_of_block HFIF.out.f3.hs; omega, by have := lt_of_block HFIF.out.f3.av; omega, fun e => by have := (row_blk HFIF.out.row e).2.1; omega⟩
        have HH6 : Hid (H ≤ (wf.alloc (.cells #[.int .u64 (f.r : Int), .int .u64 (f.w : Int), .int .u64 (f.t : Int)] 145)).heap.size) := by have := HN6.out.size; have := HH.out; show _ ≤ _; omega
        generalize wf.alloc (.cells #[.int .u64 (f.r : Int), .int .u64 (f.w : Int), .int .u64 (f.t : Int)] 145) = w6 at *
        obtain ⟨xb, HXE⟩ : ∃ xb, Hid (wf.heap.size = xb) := ⟨_, rfl⟩
        rw [HXE.out] at HBX HXN ⊢
        clear HFIF HXE HCF HNF HFI
        obtain ⟨d0, d1, d2⟩ := cells3 HFI6.out.f3.fbx
        have a0 : w6.cell? ⟨ga, rows.length, none⟩ = some (.slice va fs.length vac) := by rw [cell_blk HFI6.out.f3.av, List.getElem?_toArray]; exact HFI6.out.cur.1
        obtain ⟨b0, b1, b2⟩ := cells3 HBX.out
        obtain ⟨i0, hi0, hz0, hz1, hz2⟩ := info_parts c_infoFt
        have HI0 := hid (And.intro hi0 (And.intro hz0 (And.intro hz1 hz2)))
        have hfl2 : fs.length ≤ 1000 := by have := HFL.out; omega
        have hga6 : ga < w6.heap.size := lt_of_block HFI6.out.f3.av
        have hfb6 : fb < w6.heap.size := lt_of_block HFI6.out.f3.fbx
        have hxb6 : xb < w6.heap.size := lt_of_block HBX.out
        clear hi0 hz0 hz1 hz2 d1 d2
        go_wp2
        go_region_law (refine step_append_lies _ (by rfl) _ _ _ (by rfl) H 145 i0 (.agg #[.int .u64 0, .int .u64 0, .int .u64 0]) 3 24 Tryd.underlying115 HI0.out.1 HI0.out.2.1 HI0.out.2.2.1 HI0.out.2.2.2 rfl (by omega) (.slice va fs.length vac) fs.length (ftflat fs) (by rfl) (HFI6.out.row.alloc _) ⟨w6.heap.size, 0, none⟩ 1 1 [.int .u64 (f.r : Int), .int .u64 (f.w : Int), .int .u64 (f.t : Int)] (by rfl) (by rfl) (World.news_of_block (heap_alloc_new w6 _)) (by simp [Value.oneCell']) (by decide) (by unfold maxLen; omega) (by omega) (by have := HH6.out; simp; omega) (w6.heap.size + 1) (by simp) ?_; intro g5 cap5 w5 hown hgrow hat hg5; have m5 : Mv (fun y => (Value.slice va fs.length vac).ownBlock = some y) w6 w5 := (by first | exact ((Mv.alloc (fun y => (Value.slice va fs.length vac).ownBlock = some y) w6 _).trans (Mv.drew (fun _ => False) _) (fun _ h => h.elim)).trans (Mv.grown hgrow) (fun _ h => .inl h) | exact (Mv.alloc (fun y => (Value.slice va fs.length vac).ownBlock = some y) w6 _).trans (Mv.grown hgrow) (fun _ h => .inl h)); have k5 := cell_mv m5 a0 HFI6.out.apart.2; have e5 := cell_mv m5 d0 HFI6.out.apart.1; have f5 : w5.frozen? ⟨ga, rows.length, none⟩ = false := free_blk (m5.heap HFI6.out.f3.av HFI6.out.apart.2) _; have HPU := hid (HFI6.out.push (f := f) m5 hown (hat.imp id (fun e => by omega))); have HM5 := hid m5; clear hown hgrow hat hg5 m5)
        all_goals
          have HM7 : Hid (Mv (fun y => (Value.slice va fs.length vac).ownBlock = some y ∨ y = ga) w6 (w5.setCell ⟨ga, rows.length, none⟩ (.slice (some ⟨g5, 0, none⟩) (fs.length + 1) cap5))) := (HM5.out.mono (fun q hq => .inl (.inl hq))).trans (Mv.setCell w5 ⟨ga, rows.length, none⟩ _) (fun q hq => .inl (.inr hq))
          clear k5 e5 f5 HM5
          generalize w5.setCell ⟨ga, rows.length, none⟩ (.slice (some ⟨g5, 0, none⟩) (fs.length + 1) cap5) = w7 at *
          have HBX7 := hid (HM7.out.heap HBX.out (fun e => e.elim HXN.out.2.2 HXN.out.2.1))
          have HN7 : Hid (Nu w1 w7) := HN6.out.trans HM7.out (fun q hq => .inr (by
            rcases hq with hq | rfl
            · have := (row_blk HFI6.out.row hq).1; have := HH.out; omega
            · have := HGE.out.2.1; have := HH.out; omega))
          obtain ⟨_, d1, _⟩ := cells3 HPU.out.f3.fbx
          obtain ⟨x0, x1, x2⟩ := cells3 HBX7.out
          have hsl : rows.length < Hs.length := by rw [HPU.out.f3.hl]; exact HLT.out
          have hse : Hs[rows.length]'hsl = joinAll fs := by
            have := HPU.out.cur.2
            rw [List.getElem?_eq_getElem hsl] at this
            exact Option.some.inj this
          have HJ := hid (join_any w7 gh (rows.length * 3) xb 0 (joinAll fs) f _ HPU.out.f3.hs (by rw [← hse]; exact row_ft HPU.out.f3.hs hsl) ⟨x0, x1, x2⟩ HXN.out.1 (joinAll_small HFSA.out) HFSM.out)
          clear a0 b0 b1 b2 d0 x0 x1 x2 hse hsl hga6 hfb6 hxb6 HM7 HFI6
          go_wp2_with (go_at_call 59; refine HJ.out.mono ?_; rintro e w8 ⟨rfl, hw8⟩; have HW8 := hid hw8; clear hw8)
          have HFI8 := hid (HPU.out.joins (hv' := (joinAll fs).join f) HW8.out)
          have HN8 : Hid (Nu w1 w8) := HN7.out.trans HW8.out.mv (fun q hq => .inr (by have : q = gh := hq; have := HGE.out.2.2.1; have := HH.out; omega))
          clear HPU HW8 HJ HBX7 d1
          go_wp2
          go_roundw
          case rel => exact ⟨k + 1, some ⟨g5, 0, none⟩, cap5, fs ++ [f], _, _, HKL.out, by go_num, HFN.out, by rw [joinAll_snoc]; exact HFI8.out, HN8.out⟩
          case measure => have := HKL.out; simp [intOf]; omega

end Go.Proofs.YtiinmaedmkgfoaaDoor
/-
  A move of the program's processes: move.
-/
set_option linter.unusedVariables false
set_option linter.unusedSimpArgs false
namespace Go.Proofs.YtiinmaedmkgfoaaDoor
open Go.RowKit

/-- What the tables of feet hold. -/
def TSm (t : Thr) (pxs : List PX) : Prop := ∀ x ∈ pxs, (∀ j (h : j < x.rows.length) (n : TN), x.l[j]? = some n → x.rows[j].fs = arcsF x.l t.props n) ∧ x.Hs = hereN x.l t.props ∧ x.Es = everN x.l t.props

def tmovOf (n : Nat) (L : List Nat) (p k : Nat) (a : TA) (f : Ft) : Mov := ⟨p, k, -1, -1, if a.bad = 0 then txt (encs (behindN n L p a)) else ⟨#[]⟩, a.bad, ints (bitsOf f.r), ints (bitsOf f.w), f.t⟩

section
variable {o : Oper} {a : Act} {w : World} {K : Act → World → Prop} {Q : Exit → Act → World → Prop} {d : Nat}
theorem lk_fieldP0 {s b f : Nat} (hd : o.dst = some d) (ho : o.op = .fieldAddr 58 (.tmp s) 0) (hs : a.tmps[s]? = some (.pointer (some ⟨b, f, none⟩))) (hK : ∀ w', Nu w w' → K ⟨a.tmps.setIfInBounds d (.pointer (some ⟨b, f, none⟩)), a.defers⟩ w') : Oper.wp Tryd.prog o a w K Q := by
  have he : a.eval (.tmp s) = .pointer (some ⟨b, f, none⟩) := by simp [Act.eval, hs]
  unfold Oper.wp execOp
  simp only [ho, he, hd]
  go_simp
  exact hK w (Mv.refl _ _)
theorem lk_fieldP1 {s b f : Nat} (hd : o.dst = some d) (ho : o.op = .fieldAddr 58 (.tmp s) 1) (hs : a.tmps[s]? = some (.pointer (some ⟨b, f, none⟩))) (hK : ∀ w', Nu w w' → K ⟨a.tmps.setIfInBounds d (.pointer (some ⟨b, f + 1, none⟩)), a.defers⟩ w') : Oper.wp Tryd.prog o a w K Q := by
  have he : a.eval (.tmp s) = .pointer (some ⟨b, f, none⟩) := by simp [Act.eval, hs]
  unfold Oper.wp execOp
  simp only [ho, he, hd]
  go_simp
  exact hK w (Mv.refl _ _)
theorem lk_fieldP2 {s b f : Nat} (hd : o.dst = some d) (ho : o.op = .fieldAddr 58 (.tmp s) 2) (hs : a.tmps[s]? = some (.pointer (some ⟨b, f, none⟩))) (hK : ∀ w', Nu w w' → K ⟨a.tmps.setIfInBounds d (.pointer (some ⟨b, f + 2, none⟩)), a.defers⟩ w') : Oper.wp Tryd.prog o a w K Q := by
  have he : a.eval (.tmp s) = .pointer (some ⟨b, f, none⟩) := by simp [Act.eval, hs]
  unfold Oper.wp execOp
  simp only [ho, he, hd]
  go_simp
  exact hK w (Mv.refl _ _)
theorem lk_fieldT7 {s b f : Nat} (hd : o.dst = some d) (ho : o.op = .fieldAddr 76 (.tmp s) 7) (hs : a.tmps[s]? = some (.pointer (some ⟨b, f, none⟩))) (hK : ∀ w', Nu w w' → K ⟨a.tmps.setIfInBounds d (.pointer (some ⟨b, f + 7, none⟩)), a.defers⟩ w') : Oper.wp Tryd.prog o a w K Q := by
  have he : a.eval (.tmp s) = .pointer (some ⟨b, f, none⟩) := by simp [Act.eval, hs]
  unfold Oper.wp execOp
  simp only [ho, he, hd]
  go_simp
  exact hK w (Mv.refl _ _)
theorem lk_buildM2 {s0 s1 s5 s6 s7 s8 : Nat} {p k b t : Int} {ra wa : Option Addr} {rn rc wn wc : Nat} (hd : o.dst = some d) (ho : o.op = .build 41 #[(0, .tmp s0), (1, .tmp s1), (2, .const (.int .i64 (-1))), (3, .const (.int .i64 (-1))), (5, .tmp s5), (6, .tmp s6), (7, .tmp s7), (8, .tmp s8)]) (h0 : a.tmps[s0]? = some (.int .i64 p)) (h1 : a.tmps[s1]? = some (.int .i64 k)) (h5 : a.tmps[s5]? = some (.int .i64 b)) (h6 : a.tmps[s6]? = some (.slice ra rn rc)) (h7 : a.tmps[s7]? = some (.slice wa wn wc)) (h8 : a.tmps[s8]? = some (.int .u64 t))
    (hK : ∀ w', Nu w w' → K ⟨a.tmps.setIfInBounds d (.agg #[.int .i64 p, .int .i64 k, .int .i64 (-1), .int .i64 (-1), .string ⟨#[]⟩, .int .i64 b, .slice ra rn rc, .slice wa wn wc, .int .u64 t]), a.defers⟩ w') : Oper.wp Tryd.prog o a w K Q := by
  have e0 : a.eval (.tmp s0) = .int .i64 p := by simp [Act.eval, h0]
  have e1 : a.eval (.tmp s1) = .int .i64 k := by simp [Act.eval, h1]
  have e5 : a.eval (.tmp s5) = .int .i64 b := by simp [Act.eval, h5]
  have e6 : a.eval (.tmp s6) = .slice ra rn rc := by simp [Act.eval, h6]
  have e7 : a.eval (.tmp s7) = .slice wa wn wc := by simp [Act.eval, h7]
  have e8 : a.eval (.tmp s8) = .int .u64 t := by simp [Act.eval, h8]
  unfold Oper.wp execOp
  simp only [ho, hd]
  go_simp
  exact hK w (Mv.refl _ _)
set_option maxHeartbeats 4000000 in
theorem lk_storeM2 {s r nb : Nat} {z0 z1 z2 z3 z4 z5 z6 z7 z8 : Value} {p k b t : Int} {ra wa : Option Addr} {rn rc wn wc : Nat} (hd : o.dst = none) (ho : o.op = .store 41 (.tmp s) (.tmp r)) (hs : a.tmps[s]? = some (.pointer (some ⟨nb, 0, none⟩))) (hr : a.tmps[r]? = some (.agg #[.int .i64 p, .int .i64 k, .int .i64 (-1), .int .i64 (-1), .string ⟨#[]⟩, .int .i64 b, .slice ra rn rc, .slice wa wn wc, .int .u64 t])) (hb : w.heap[nb]? = some (.cells #[z0, z1, z2, z3, z4, z5, z6, z7, z8] 41 (0, 0)))
    (hK : ∀ w', w'.heap[nb]? = some (.cells #[.int .i64 p, .int .i64 k, .int .i64 (-1), .int .i64 (-1), .string ⟨#[]⟩, .int .i64 b, .slice ra rn rc, .slice wa wn wc, .int .u64 t] 41 (0, 0)) → Mv (· = nb) w w' → K a w') : Oper.wp Tryd.prog o a w K Q := by
  have hes : a.eval (.tmp s) = .pointer (some ⟨nb, 0, none⟩) := by simp [Act.eval, hs]
  have her : a.eval (.tmp r) = .agg #[.int .i64 p, .int .i64 k, .int .i64 (-1), .int .i64 (-1), .string ⟨#[]⟩, .int .i64 b, .slice ra rn rc, .slice wa wn wc, .int .u64 t] := by simp [Act.eval, hr]
  have d0 := cell_blk hb 0
  have d1 := cell_blk hb 1
  have d2 := cell_blk hb 2
  have d3 := cell_blk hb 3
  have d4 := cell_blk hb 4
  have d5 := cell_blk hb 5
  have d6 := cell_blk hb 6
  have d7 := cell_blk hb 7
  have d8 := cell_blk hb 8
  simp only [List.size_toArray, List.length_cons, List.length_nil, Nat.reduceAdd, Nat.lt_add_one, Nat.reduceLT, getElem?_pos, List.getElem_toArray, List.getElem_cons_zero, List.getElem_cons_succ, Nat.zero_lt_succ] at d0 d1 d2 d3 d4 d5 d6 d7 d8
  have f0 := free_blk hb 0
  have f1 := free_blk hb 1
  have f2 := free_blk hb 2
  have f3 := free_blk hb 3
  have f4 := free_blk hb 4
  have f5 := free_blk hb 5
  have f6 := free_blk hb 6
  have f7 := free_blk hb 7
  have f8 := free_blk hb 8
  unfold Oper.wp execOp
  simp only [ho, hd, hes, her]
  go_simp
  obtain ⟨h1, h2⟩ := set9 (v0 := .int .i64 p) (v1 := .int .i64 k) (v2 := .int .i64 (-1)) (v3 := .int .i64 (-1)) (v4 := .string ⟨#[]⟩) (v5 := .int .i64 b) (v6 := .slice ra rn rc) (v7 := .slice wa wn wc) (v8 := .int .u64 t) hb
  exact hK _ h1 h2
end

/-- The program's own way of a move, in letters: all that it reads. -/
structure MvIn (w : World) (tb : Nat) (ao : Option Addr) (L : List Nat) (n np p nd k : Nat) (qg qc pl g nc vg vc an ag fg fvc ga : Nat) (a : TA) (f : Ft) : Prop where
  c3 : w.cell? ⟨tb, 3, none⟩ = some (.slice (some ⟨qg, 0, none⟩) np qc)
  pn : p < np
  q0 : w.cell? ⟨qg, p * 4, none⟩ = some (.slice (some ⟨g, 0, none⟩) pl nc)
  q1 : w.cell? ⟨qg, p * 4 + 1, none⟩ = some (.slice (some ⟨ga, 0, none⟩) pl pl)
  nl : nd < pl
  n0 : w.cell? ⟨g, nd * 4, none⟩ = some (.slice (some ⟨vg, 0, none⟩) an vc)
  ka : k < an
  at' : TAAt w vg (k * 8) a
  r0 : w.cell? ⟨ga, nd, none⟩ = some (.slice (some ⟨fg, 0, none⟩) an fvc)
  ft : FtAt w fg (k * 3) f

def RMv (ab ko fb : Nat) (p k : Int) (a : TA) (f : Ft) (ra : Option Addr) (rc : Nat) (wa : Option Addr) (wc : Nat) (H : Nat) : Nat → World → Value → Prop
  | 0, _, v => v = .int .i64 p
  | 1, _, v => v = .int .i64 k
  | 2, _, v => v = .pointer (some ⟨ab, ko, none⟩)
  | 3, _, v => v = .pointer (some ⟨ab, ko, none⟩)
  | 4, _, v => v = .pointer (some ⟨ab, ko + 7, none⟩)
  | 5, _, v => v = .int .i64 a.bad
  | 6, _, v => v = .pointer (some ⟨fb, 0, none⟩)
  | 7, _, v => v = .slice ra (bitsOf f.r).length rc
  | 8, _, v => v = .pointer (some ⟨fb, 0 + 1, none⟩)
  | 9, _, v => v = .slice wa (bitsOf f.w).length wc
  | 10, _, v => v = .pointer (some ⟨fb, 0 + 2, none⟩)
  | 11, _, v => v = .int .u64 (f.t : Int)
  | 12, _, v => v = .agg #[.int .i64 p, .int .i64 k, .int .i64 (-1), .int .i64 (-1), .string ⟨#[]⟩, .int .i64 a.bad, .slice ra (bitsOf f.r).length rc, .slice wa (bitsOf f.w).length wc, .int .u64 (f.t : Int)]
  | 13, w, v => ∃ nb, v = .pointer (some ⟨nb, 0, none⟩) ∧ w.heap[nb]? = some (.cells #[.int .i64 0, .int .i64 0, .int .i64 0, .int .i64 0, .string ⟨#[]⟩, .int .i64 0, .slice none 0 0, .slice none 0 0, .int .u64 0] 41 (0, 0)) ∧ H ≤ nb
  | _, _, v => v = undef
theorem RMv.nu {ab ko fb : Nat} {p k : Int} {a : TA} {f : Ft} {ra : Option Addr} {rc : Nat} {wa : Option Addr} {wc : Nat} {H : Nat} : ∀ (i : Nat) (w w' : World) (v : Value), Nu w w' → RMv ab ko fb p k a f ra rc wa wc H i w v → RMv ab ko fb p k a f ra rc wa wc H i w' v := by
  intro i w w' v hn h
  unfold RMv at h ⊢
  split <;> simp only at h <;> first
    | exact h
    | (obtain ⟨nb, h1, h2, h3⟩ := h; exact ⟨nb, h1, hn.heap h2 id, h3⟩)

theorem cells3J {w : World} {b : Nat} {t : TypeId} {v0 v1 v2 : Value} (h : w.heap[b]? = some (.cells #[v0, v1, v2] t (0, 0))) : w.cell? ⟨b, 0, none⟩ = some v0 ∧ w.cell? ⟨b, 1, none⟩ = some v1 ∧ w.cell? ⟨b, 2, none⟩ = some v2 := ⟨cell_blk h 0, cell_blk h 1, cell_blk h 2⟩
theorem frees3J {w : World} {b : Nat} {t : TypeId} {cs : Array Value} (h : w.heap[b]? = some (.cells cs t (0, 0))) : w.frozen? ⟨b, 0, none⟩ = false ∧ w.frozen? ⟨b, 1, none⟩ = false ∧ w.frozen? ⟨b, 2, none⟩ = false := ⟨free_blk h 0, free_blk h 1, free_blk h 2⟩
theorem set3J {w : World} {b : Nat} {t : TypeId} {z0 z1 z2 v0 v1 v2 : Value} (h : w.heap[b]? = some (.cells #[z0, z1, z2] t (0, 0))) :
    (((w.setCell ⟨b, 0, none⟩ v0).setCell ⟨b, 1, none⟩ v1).setCell ⟨b, 2, none⟩ v2).heap[b]? = some (.cells #[v0, v1, v2] t (0, 0)) ∧ Mv (· = b) w (((w.setCell ⟨b, 0, none⟩ v0).setCell ⟨b, 1, none⟩ v1).setCell ⟨b, 2, none⟩ v2) := by
  have h0 := setCell_blk (i := 0) (u := v0) h
  have h1 := setCell_blk (i := 1) (u := v1) h0
  have h2 := setCell_blk (i := 2) (u := v2) h1
  simp only [List.setIfInBounds_toArray, List.set_cons_succ, List.set_cons_zero] at h2
  refine ⟨h2, ?_⟩
  have m (W : World) (i : Nat) (u : Value) : Mv (· = b) W (W.setCell ⟨b, i, none⟩ u) := Mv.setCell W ⟨b, i, none⟩ u
  have t2 {A B C : World} (h : Mv (· = b) A B) (k : Mv (· = b) B C) : Mv (· = b) A C := h.trans k (fun _ h => .inl h)
  exact t2 (t2 (m _ _ _) (m _ _ _)) (m _ _ _)

/-- What move hands over. -/
def TMOut (w : World) (m : Mov) (e : Ending) (w' : World) : Prop := Nu w w' ∧ ∃ y : X, e = .returned y.val ∧ y.m = m ∧ XOwn w' w.heap.size y

theorem tmove_out {w w9 w10 : World} {H : Nat} {m : Mov} {ra wa : Option Addr} {rc wc : Nat} {v : Value} (hn : Nu w w9) (hr : OwnI w9 H ra rc m.reads) (hw : OwnI w9 H wa wc m.writes) (hH : w.heap.size < H) (hm : Mv (· = w.heap.size) w9 w10) (hv : v = X.val ⟨m, ra, rc, wa, wc⟩) : TMOut w m (.returned v) w10 := by
  subst hv
  refine ⟨hn.trans hm (fun x hx => .inr (by omega)), ⟨m, ra, rc, wa, wc⟩, rfl, rfl, hr.mv hm (fun a hp ha e => ?_) (by omega), hw.mv hm (fun a hp ha e => ?_) (by omega)⟩
  · rcases hr.row with h0 | ⟨g, cs, hg, hh, _⟩
    · omega
    · rw [hg] at ha; cases ha; simp only at e; omega
  · rcases hw.row with h0 | ⟨g, cs, hg, hh, _⟩
    · omega
    · rw [hg] at ha; cases ha; simp only at e; omega

set_option maxHeartbeats 8000000 in
set_option maxRecDepth 40000 in
theorem tmove_in (w : World) (F : Nat → Prop) (tb : Nat) (t : Thr) {ro : Option Addr} {rc : Nat} {fo : Option Addr} {fc : Nat} {po : Option Addr} {pc : Nat} {qo : Option Addr} {qqc : Nat} {pxs : List PX} (h : TIs w F tb t ro rc fo fc po pc qo qqc pxs) (hm : mayT t = true) (hF : ∀ b, F b → b < w.heap.size) (hT : TabAt 0 Lib.deBruijn64tab w)
    (lb lo ac : Nat) (L : List Nat) (hL : L.length = t.init.length + t.procs.length) (hat : ∀ i (h : i < L.length), w.cell? ⟨lb, lo + i, none⟩ = some (.int .i64 (L[i] : Int))) (hs : ∀ n ∈ L, n < 256) (p k nd : Nat) (hp : p < t.procs.length) (hnd : L[t.init.length + p]? = some nd)
    {qg qc pl g nc vg vc an ag fg fvc ga : Nat} {a : TA} {f : Ft} (hin : MvIn w tb (some ⟨lb, lo, none⟩) L t.init.length t.procs.length p nd k qg qc pl g nc vg vc an ag fg fvc ga a f) (hf : f.Small) (size : Int) (hta : taB size t.init.length a = true) (hsz : size ≤ 60) :
    Calls Tryd.prog 99 #[.pointer (some ⟨tb, 0, none⟩), .slice (some ⟨lb, lo, none⟩) L.length ac, .int .i64 (p : Int), .int .i64 (k : Int)] w (TMOut w (tmovOf t.init.length L p k a f)) := by
  have HTI := hid h
  have HM := hid hm
  have HF := hid hF
  have HT := hid hT
  have HS := hid hs
  have HAT := hid hat
  have HTA := hid hta
  have HSZ := hid hsz
  have HFS := hid hf
  have HL := hid hL
  have HP := hid hp
  have hq : t.init.length + p < L.length := by omega
  have cl : w.cell? ⟨lb, lo + (t.init.length + p), none⟩ = some (.int .i64 (nd : Int)) := by
    have h1 := hat _ hq
    have h2 : L[t.init.length + p] = nd := by rw [List.getElem?_eq_getElem hq] at hnd; exact Option.some.inj hnd
    rw [h2] at h1
    exact h1
  have HQL := hid hq
  have bl : ((t.init.length + p : Nat) : Int) < (L.length : Int) := by omega
  have HIN := hid hin
  obtain ⟨c3, hpn, q0, q1, hnl, n0, hka, _, r0, _⟩ := hin
  have bp : (p : Int) < (t.procs.length : Int) := by omega
  have bn : (nd : Int) < (pl : Int) := by omega
  have bk : (k : Int) < (an : Int) := by omega
  clear h hm hF hT hs hat hta hsz hf hL hp hq hnd hpn hnl hka
  go_enter Tryd.func99, Tryd.ntmps99
  go_upto_region 1 with fail
  have HN1 : Hid (Nu w (w.alloc (.cells #[.int .i64 0, .int .i64 0, .int .i64 0, .int .i64 0, .string ⟨#[]⟩, .int .i64 0, .slice none 0 0, .slice none 0 0, .int .u64 0] 41))) := Mv.alloc _ _ _
  have HA1 : Hid ((w.alloc (.cells #[.int .i64 0, .int .i64 0, .int .i64 0, .int .i64 0, .string ⟨#[]⟩, .int .i64 0, .slice none 0 0, .slice none 0 0, .int .u64 0] 41)).heap[w.heap.size]? = some (.cells #[.int .i64 0, .int .i64 0, .int .i64 0, .int .i64 0, .string ⟨#[]⟩, .int .i64 0, .slice none 0 0, .slice none 0 0, .int .u64 0] 41 (0, 0))) := heap_alloc_new w _
  have HZ1 : Hid ((w.alloc (.cells #[.int .i64 0, .int .i64 0, .int .i64 0, .int .i64 0, .string ⟨#[]⟩, .int .i64 0, .slice none 0 0, .slice none 0 0, .int .u64 0] 41)).heap.size = w.heap.size + 1) := World.size_alloc _ _
  generalize w.alloc (.cells #[.int .i64 0, .int .i64 0, .int .i64 0, .int .i64 0, .string ⟨#[]⟩, .int .i64 0, .slice none 0 0, .slice none 0 0, .int .u64 0] 41) = w1 at *
  replace cl := cell_mv HN1.out cl id
  replace c3 := cell_mv HN1.out c3 id
  replace q0 := cell_mv HN1.out q0 id
  replace q1 := cell_mv HN1.out q1 id
  replace n0 := cell_mv HN1.out n0 id
  replace r0 := cell_mv HN1.out r0 id
  have HC1 := hid (place_any w1 F tb t (HTI.out.keep (HN1.out.keep (fun b hb => ⟨HF.out b hb, id⟩))) HM.out p HP.out)
  go_upto_region 2 with (go_at_call 97; refine HC1.out.mono ?_; rintro e w2 ⟨rfl, hn2⟩; replace cl := cell_mv hn2 cl id; replace c3 := cell_mv hn2 c3 id; replace q0 := cell_mv hn2 q0 id; replace q1 := cell_mv hn2 q1 id; replace n0 := cell_mv hn2 n0 id; replace r0 := cell_mv hn2 r0 id; have HN2 := hid (mv0 HN1.out hn2); have HK2 := hid hn2; clear hn2)
  clear HC1 cl bl
  go_upto_region 3 with fail
  have HC3 := hid (told_any w2 fg (k * 3) f (HIN.out.ft.mv HN2.out id) HFS.out (tab_nu HT.out HN2.out))
  clear n0 bk
  have bk : (k : Int) < (an : Int) := by have := HIN.out.ka; omega
  go_upto_region 4 with (go_at_call 95; refine HC3.out.mono ?_; rintro e w3 ⟨hn3, ra, rc, wa, wc, rfl, hor, how⟩; have HN3 := hid (mv0 HN2.out hn3); have HK3 := hid (mv0 HK2.out hn3); have HOR := hid hor; have HOW := hid how; have HH := hid hn3.size; have HB3 := hid (heap_alloc_new w3 (.cells #[.slice none 0 0, .slice none 0 0, .int .u64 0] 58)); obtain ⟨y0, y1, y2⟩ := cells3J HB3.out; obtain ⟨u0, u1, u2⟩ := frees3J HB3.out; clear hn3 hor how)
  clear y0 y1 y2 u0 u1 u2 HB3 HC3 c3 q0 q1 r0 bp bn bk
  have HN4 : Hid (Nu w3 (w3.alloc (.cells #[.slice ra (bitsOf f.r).length rc, .slice wa (bitsOf f.w).length wc, .int .u64 (f.t : Int)] 58))) := Mv.alloc _ _ _
  have HB4 : Hid ((w3.alloc (.cells #[.slice ra (bitsOf f.r).length rc, .slice wa (bitsOf f.w).length wc, .int .u64 (f.t : Int)] 58)).heap[w3.heap.size]? = some (.cells #[.slice ra (bitsOf f.r).length rc, .slice wa (bitsOf f.w).length wc, .int .u64 (f.t : Int)] 58 (0, 0))) := heap_alloc_new w3 _
  generalize w3.alloc (.cells #[.slice ra (bitsOf f.r).length rc, .slice wa (bitsOf f.w).length wc, .int .u64 (f.t : Int)] 58) = w4 at *
  have HZ4 : Hid (w3.heap.size ≤ w4.heap.size) := HN4.out.size
  generalize hfb : w3.heap.size = fb at *
  clear hfb
  obtain ⟨p0, p1, p2⟩ := cells3J HB4.out
  have c7 := cell_mv (mv0 HN3.out HN4.out) HIN.out.at'.c7 id
  rename_i KC hKC
  refine wp_lookS (RMv vg (k * 8) fb (p : Int) (k : Int) a f ra rc wa wc w4.heap.size) RMv.nu (by kernel_rfl) (by kernel_rfl) ?step ?last
  case step =>
    intro i o d a' w' ho hd hn hfr had K hK
    have hi : i < 15 := (Array.getElem?_eq_some_iff.1 ho).1
    have f2 := hfr 2 (by kernel_rfl)
    have f3 := hfr 3 (by kernel_rfl)
    have f10 := hfr 10 (by kernel_rfl)
    have f11 := hfr 11 (by kernel_rfl)
    have : i = 0 ∨ i = 1 ∨ i = 2 ∨ i = 3 ∨ i = 4 ∨ i = 5 ∨ i = 6 ∨ i = 7 ∨ i = 8 ∨ i = 9 ∨ i = 10 ∨ i = 11 ∨ i = 12 ∨ i = 13 ∨ i = 14 := by omega
    rcases this with rfl | rfl | rfl | rfl | rfl | rfl | rfl | rfl | rfl | rfl | rfl | rfl | rfl | rfl | rfl <;> cases ho <;> cases hd
    · exact ite_yes (want_none rfl) (lk_move rfl rfl f2 (fun w' hm => hK w' _ hm rfl))
    · exact ite_yes (want_none rfl) (lk_move rfl rfl f3 (fun w' hm => hK w' _ hm rfl))
    · exact ite_yes (want_none rfl) (lk_move rfl rfl f10 (fun w' hm => hK w' _ hm rfl))
    · obtain ⟨⟨_, h0, rfl⟩, _⟩ := had; exact ite_yes (want_none rfl) (lk_nilP rfl rfl h0 (fun w' hm => hK w' _ hm rfl))
    · obtain ⟨⟨_, h0, rfl⟩, _⟩ := had; exact ite_yes (want_none rfl) (lk_fieldT7 rfl rfl h0 (fun w' hm => hK w' _ hm rfl))
    · obtain ⟨⟨_, h0, rfl⟩, _⟩ := had; exact ite_yes (want_none rfl) (lk_loadN rfl rfl h0 (cell_mv hn c7 id) (fun w' hm => hK w' _ hm rfl))
    · exact ite_yes (want_none rfl) (lk_fieldP0 rfl rfl f11 (fun w' hm => hK w' _ hm rfl))
    · obtain ⟨⟨_, h0, rfl⟩, _⟩ := had; exact ite_yes (want_none rfl) (lk_loadI rfl rfl h0 (cell_mv hn p0 id) (fun w' hm => hK w' _ hm rfl))
    · exact ite_yes (want_none rfl) (lk_fieldP1 rfl rfl f11 (fun w' hm => hK w' _ hm rfl))
    · obtain ⟨⟨_, h0, rfl⟩, _⟩ := had; exact ite_yes (want_none rfl) (lk_loadI rfl rfl h0 (cell_mv hn p1 id) (fun w' hm => hK w' _ hm rfl))
    · exact ite_yes (want_none rfl) (lk_fieldP2 rfl rfl f11 (fun w' hm => hK w' _ hm rfl))
    · obtain ⟨⟨_, h0, rfl⟩, _⟩ := had; exact ite_yes (want_none rfl) (lk_loadU rfl rfl h0 (cell_mv hn p2 id) (fun w' hm => hK w' _ hm rfl))
    · obtain ⟨⟨_, h0, rfl⟩, ⟨_, h1, rfl⟩, ⟨_, h2, rfl⟩, ⟨_, h3, rfl⟩, ⟨_, h4, rfl⟩, ⟨_, h5, rfl⟩, _⟩ := had; exact ite_yes (want_none rfl) (lk_buildM2 rfl rfl h0 h1 h2 h3 h4 h5 (fun w' hm => hK w' _ hm rfl))
    · exact ite_yes (want_none rfl) (lk_allocM rfl rfl (hK _ _ (Mv.alloc _ _ _) ⟨_, rfl, heap_alloc_new _ _, hn.size⟩))
  case last =>
    intro o a' w5 ho hn5 hdf hsz hfr htv
    cases ho
    obtain ⟨_, t12, rfl⟩ := htv 12 _ 60 rfl rfl
    obtain ⟨_, t13, ob, rfl, hob, hobl⟩ := htv 13 _ 12 rfl rfl
    have htm := fill_eq (vals := fun i => ([.int .i64 (p : Int), .int .i64 (k : Int), .pointer (some ⟨vg, k * 8, none⟩), .pointer (some ⟨vg, k * 8, none⟩), .pointer (some ⟨vg, k * 8 + 7, none⟩), .int .i64 a.bad, .pointer (some ⟨fb, 0, none⟩), .slice ra (bitsOf f.r).length rc, .pointer (some ⟨fb, 0 + 1, none⟩), .slice wa (bitsOf f.w).length wc, .pointer (some ⟨fb, 0 + 2, none⟩), .int .u64 (f.t : Int), .agg #[.int .i64 (p : Int), .int .i64 (k : Int), .int .i64 (-1), .int .i64 (-1), .string ⟨#[]⟩, .int .i64 a.bad, .slice ra (bitsOf f.r).length rc, .slice wa (bitsOf f.w).length wc, .int .u64 (f.t : Int)], .pointer (some ⟨ob, 0, none⟩)] : List Value).getD i undef) (by kernel_rfl) hfr (fun i p' d hi hd => by
      have hi' : i < 15 := (Array.getElem?_eq_some_iff.1 hi).1
      obtain ⟨v, h, hv⟩ := htv i p' d hi hd
      have : i = 0 ∨ i = 1 ∨ i = 2 ∨ i = 3 ∨ i = 4 ∨ i = 5 ∨ i = 6 ∨ i = 7 ∨ i = 8 ∨ i = 9 ∨ i = 10 ∨ i = 11 ∨ i = 12 ∨ i = 13 ∨ i = 14 := by omega
      rcases this with rfl | rfl | rfl | rfl | rfl | rfl | rfl | rfl | rfl | rfl | rfl | rfl | rfl | rfl | rfl <;> cases hi <;> cases hd <;> first | exact t13 | exact h.trans (congrArg some hv))
    refine lk_storeM2 rfl rfl t13 t12 hob (fun w6 hb6 hm6 => ?_)
    refine hKC _ _ ?_
    have HN6 : Hid (Nu w4 w6) := hn5.trans hm6 (fun x hx => .inr (by have : x = ob := hx; omega))
    have HB6 := hid hb6
    have HOB := hid hobl
    have hobr : ∀ {ao : Option Addr} {cp : Nat} {ys : List Int}, OwnI w5 w2.heap.size ao cp ys → ∀ a, 0 < cp → ao = some a → ¬ a.block = ob := fun {ao cp ys} hy a hp ha e => by
      rcases hy.row with h0 | ⟨g, cs, hg, hh, hc, _⟩
      · omega
      · rw [hg] at ha; cases ha
        simp only at e
        rw [e, hob] at hc
        simp at hc
    have o1 := (HOR.out.mv HN4.out (fun _ _ _ => id) (Nat.le_refl _)).mv hn5 (fun _ _ _ => id) (Nat.le_refl _)
    have o2 := (HOW.out.mv HN4.out (fun _ _ _ => id) (Nat.le_refl _)).mv hn5 (fun _ _ _ => id) (Nat.le_refl _)
    have HO6 : Hid (OwnI w6 w2.heap.size ra rc (ints (bitsOf f.r)) ∧ OwnI w6 w2.heap.size wa wc (ints (bitsOf f.w))) := ⟨o1.mv hm6 (hobr o1) (Nat.le_refl _), o2.mv hm6 (hobr o2) (Nat.le_refl _)⟩
    rw [act_eq' htm hdf]
    clear htm hdf hn5 hsz hfr htv t12 t13 hob hb6 hm6 hobl hKC hobr o1 o2 p0 p1 p2 c7 HOR HOW
    simp only [fill, List.getD_cons_succ, List.getD_cons_zero, List.setIfInBounds_toArray, List.set_cons_succ, List.set_cons_zero]
    have HKW : Hid (Nu w1 w6) := mv0 (mv0 HK3.out HN4.out) HN6.out
    have HNW : Hid (Nu w w6) := mv0 HN1.out HKW.out
    have HA6 : Hid (w6.heap[w.heap.size]? = some (.cells #[.int .i64 0, .int .i64 0, .int .i64 0, .int .i64 0, .string ⟨#[]⟩, .int .i64 0, .slice none 0 0, .slice none 0 0, .int .u64 0] 41 (0, 0))) := HKW.out.heap HA1.out id
    have HSW : Hid (w.heap.size < w2.heap.size) := by have := HZ1.out; have := HK2.out.size; show _ < _; omega
    have HWO : Hid (w.heap.size < ob) := by have h1 := HZ1.out; have h2 := HK3.out.size; have h3 := HN4.out.size; have h4 := HOB.out; show _ < _; omega
    have c7 := cell_mv HNW.out HIN.out.at'.c7 id
    by_cases hbad : a.bad = 0
    · rw [hbad] at c7
      have HBAD := hid hbad
      have HCB := hid (behind_any w6 F tb t (HTI.out.keep (HNW.out.keep (fun b hb => ⟨HF.out b hb, id⟩))) HM.out (fun b hb => Nat.lt_of_lt_of_le (HF.out b hb) HNW.out.size) (some ⟨lb, lo, none⟩) ac L HL.out ⟨by rw [ints_length]; have h1 := HL.out; have h2 := mayT_parts HM.out; omega, .inr ⟨lb, lo, rfl, Nat.lt_of_lt_of_le (World.block_lt_of_cell? w _ (HAT.out _ HQL.out)) HNW.out.size, fun i hi => by
        have hi' : i < L.length := by rwa [ints_length] at hi
        have h1 := cell_mv HNW.out (HAT.out i hi') id
        rw [h1]
        simp [ints]⟩⟩ HS.out p HP.out vg (k * 8) a (HIN.out.at'.keep (HNW.out.keep (F := (· = vg)) (fun b hb => ⟨by have : b = vg := hb; rw [this]; exact World.block_lt_of_cell? w _ HIN.out.at'.c7, id⟩)) rfl) size HTA.out HSZ.out)
      clear hbad
      go_upto_region 6 with fail
      clear c7
      go_upto_region 7 with (go_at_call 106; refine HCB.out.mono ?_; rintro e w7 ⟨rfl, hn7⟩; have HN7 := hid hn7; have e4 := cell_blk (hn7.heap HB6.out id) 4; have z4' := free_blk (hn7.heap HB6.out id) 4; clear hn7)
      have HM8 : Hid (Mv (· = ob) w7 (w7.setCell ⟨ob, 4, none⟩ (.string (txt (encs (behindN t.init.length L p a)))))) := Mv.setCell w7 ⟨ob, 4, none⟩ _
      have HB8 : Hid ((w7.setCell ⟨ob, 4, none⟩ (.string (txt (encs (behindN t.init.length L p a))))).heap[ob]? = some (.cells #[.int .i64 (p : Int), .int .i64 (k : Int), .int .i64 (-1), .int .i64 (-1), .string (txt (encs (behindN t.init.length L p a))), .int .i64 a.bad, .slice ra (bitsOf f.r).length rc, .slice wa (bitsOf f.w).length wc, .int .u64 (f.t : Int)] 41 (0, 0))) := setCell_blk (HN7.out.heap HB6.out id)
      have HA8 : Hid ((w7.setCell ⟨ob, 4, none⟩ (.string (txt (encs (behindN t.init.length L p a))))).heap[w.heap.size]? = some (.cells #[.int .i64 0, .int .i64 0, .int .i64 0, .int .i64 0, .string ⟨#[]⟩, .int .i64 0, .slice none 0 0, .slice none 0 0, .int .u64 0] 41 (0, 0))) := HM8.out.heap (HN7.out.heap HA6.out id) (fun e => by have := HWO.out; omega)
      have HM9 : Hid (Mv (· = ob) w6 (w7.setCell ⟨ob, 4, none⟩ (.string (txt (encs (behindN t.init.length L p a)))))) := (HN7.out.mono (fun _ h => h.elim)).trans HM8.out (fun _ h => .inl h)
      generalize w7.setCell ⟨ob, 4, none⟩ (.string (txt (encs (behindN t.init.length L p a)))) = w8 at *
      clear e4 z4' HM8
      obtain ⟨p0, p1, p2, p3, p4, p5, p6, p7, p8⟩ := cells9 HB8.out
      obtain ⟨q0, q1, q2, q3, q4, q5, q6, q7, q8⟩ := cells9 HA8.out
      obtain ⟨z0, z1, z2, z3, z4, z5, z6, z7, z8⟩ := frees9 HA8.out
      go_wp2
      obtain ⟨hset, hmset⟩ := set9 (v0 := .int .i64 (p : Int)) (v1 := .int .i64 (k : Int)) (v2 := .int .i64 (-1)) (v3 := .int .i64 (-1)) (v4 := .string (txt (encs (behindN t.init.length L p a)))) (v5 := .int .i64 a.bad) (v6 := .slice ra (bitsOf f.r).length rc) (v7 := .slice wa (bitsOf f.w).length wc) (v8 := .int .u64 (f.t : Int)) HA8.out
      refine bodyPost_ret (results_cell_row rfl _ _ w.heap.size 41 _ (0, 0) _ rfl hset Tryd.underlying41 rfl (by kernel_rfl)) rfl ?_
      have hobr : ∀ {ao : Option Addr} {cp : Nat} {ys : List Int}, OwnI w6 w2.heap.size ao cp ys → ∀ a, 0 < cp → ao = some a → ¬ a.block = ob := fun {ao cp ys} hy a hp ha e => by
        rcases hy.row with h0 | ⟨g, cs, hg, hh, hc, _⟩
        · omega
        · rw [hg] at ha; cases ha
          simp only at e
          rw [e, HB6.out] at hc
          simp at hc
      refine tmove_out (HNW.out.trans HM9.out (fun x hx => .inr (by have : x = ob := hx; have := HWO.out; omega))) (HO6.out.1.mv HM9.out (hobr HO6.out.1) (Nat.le_refl _)) (HO6.out.2.mv HM9.out (hobr HO6.out.2) (Nat.le_refl _)) HSW.out hmset ?_
      simp [X.val, tmovOf, ints_length, HBAD.out]
    · have HBAD := hid hbad
      go_upto_region 7 with fail
      obtain ⟨p0, p1, p2, p3, p4, p5, p6, p7, p8⟩ := cells9 HB6.out
      obtain ⟨q0, q1, q2, q3, q4, q5, q6, q7, q8⟩ := cells9 HA6.out
      obtain ⟨z0, z1, z2, z3, z4, z5, z6, z7, z8⟩ := frees9 HA6.out
      go_wp2
      obtain ⟨hset, hmset⟩ := set9 (v0 := .int .i64 (p : Int)) (v1 := .int .i64 (k : Int)) (v2 := .int .i64 (-1)) (v3 := .int .i64 (-1)) (v4 := .string ⟨#[]⟩) (v5 := .int .i64 a.bad) (v6 := .slice ra (bitsOf f.r).length rc) (v7 := .slice wa (bitsOf f.w).length wc) (v8 := .int .u64 (f.t : Int)) HA6.out
      refine bodyPost_ret (results_cell_row rfl _ _ w.heap.size 41 _ (0, 0) _ rfl hset Tryd.underlying41 rfl (by kernel_rfl)) rfl ?_
      refine tmove_out HNW.out HO6.out.1 HO6.out.2 HSW.out hmset ?_
      simp [X.val, tmovOf, ints_length, HBAD.out]

end Go.Proofs.YtiinmaedmkgfoaaDoor
/-
  The program's move, of raw processes in memory.
-/
set_option linter.unusedVariables false
set_option linter.unusedSimpArgs false
namespace Go.Proofs.YtiinmaedmkgfoaaDoor
open Go.RowKit

theorem tmove_any (w : World) (F : Nat → Prop) (tb : Nat) (t : Thr) {ro : Option Addr} {rc : Nat} {fo : Option Addr} {fc : Nat} {po : Option Addr} {pc : Nat} {qo : Option Addr} {qqc : Nat} {pxs : List PX} (h : TIs w F tb t ro rc fo fc po pc qo qqc pxs) (hm : mayT t = true) (hF : ∀ b, F b → b < w.heap.size) (hT : TabAt 0 Lib.deBruijn64tab w) (hsm : TSm t pxs)
    (ao : Option Addr) (ac : Nat) (L : List Nat) (hL : L.length = t.init.length + t.procs.length) (hat : IntsAt w w.heap.size ao (ints L)) (hs : ∀ n ∈ L, n < 256) (p k nd : Nat) (hp : p < pxs.length) (hnd : L[t.init.length + p]? = some nd) (hn : nd < (pxs[p]).txs.length) (hk : k < ((pxs[p]).txs[nd]).n.arcs.length) :
    Calls Tryd.prog 99 #[.pointer (some ⟨tb, 0, none⟩), .slice ao L.length ac, .int .i64 (p : Int), .int .i64 (k : Int)] w (TMOut w (tmovOf t.init.length L p k ((pxs[p]).txs[nd]).n.arcs[k] (footN t.props ((pxs[p]).txs[nd]).n ((pxs[p]).l.getD (((pxs[p]).txs[nd]).n.arcs[k]).to.toNat default) ((pxs[p]).txs[nd]).n.arcs[k]))) := by
  obtain ⟨hi16, hp8, hp60, _, hpr, _⟩ := mayT_parts hm
  have hpl : pxs.length = t.procs.length := by rw [← h.eq, List.length_map]
  have hlp : (pxs[p]).l ∈ t.procs := by rw [← h.eq]; exact List.mem_map.2 ⟨_, List.getElem_mem hp, rfl⟩
  obtain ⟨_, hl60, hxa⟩ := procB_parts (hpr _ hlp)
  have hpi := h.pis _ (List.getElem_mem hp)
  have hmem := List.getElem_mem hp
  have hqq := h.procs
  have hsx := (hsm _ hmem).1
  have c3 := cell_blk h.blk 3
  simp only [List.size_toArray, List.length_cons, List.length_nil, Nat.reduceAdd, Nat.lt_add_one, Nat.reduceLT, getElem?_pos, List.getElem_toArray, List.getElem_cons_zero, List.getElem_cons_succ, Nat.zero_lt_succ] at c3
  rcases hqq with h0 | ⟨qg, rfl, hFq, hpx⟩
  · omega
  have hx := hpx p hp
  generalize pxs[p] = px at *
  have htl : px.txs.length = px.l.length := by rw [← hpi.eq, List.length_map]
  have hxm : (px.txs[nd]).n ∈ px.l := by rw [← hpi.eq]; exact List.mem_map.2 ⟨_, List.getElem_mem hn, rfl⟩
  have hxg : px.l[nd]? = some (px.txs[nd]).n := by rw [← hpi.eq, List.getElem?_map, List.getElem?_eq_getElem hn]; rfl
  have hta := (hxa _ hxm).2 _ (List.getElem_mem hk)
  have hnr : nd < px.rows.length := by rw [hpi.rl]; omega
  obtain ⟨hav, hrow⟩ := hpi.st nd hnr
  have hfs := hsx nd hnr _ hxg
  have hnat := hpi.nat nd hn
  have harc := hpi.arcs _ (List.getElem_mem hn)
  generalize px.txs[nd] = tx at *
  rcases harc with h0 | ⟨vg, hvo, hFv, hta8⟩
  · omega
  have hfl : (px.rows[nd]).fs.length = tx.n.arcs.length := by rw [hfs, arcsF, List.length_map]
  rcases hrow.row with h0 | ⟨fg, hfo, hFf, hft⟩
  · omega
  have hfk := hft k (by omega)
  have hfe : (px.rows[nd]).fs[k]? = some (footN t.props tx.n (px.l.getD (tx.n.arcs[k]).to.toNat default) tx.n.arcs[k]) := by rw [hfs, arcsF, List.getElem?_map, List.getElem?_eq_getElem hk]; rfl
  have hfe' : (px.rows[nd]).fs[k]'(by omega) = footN t.props tx.n (px.l.getD (tx.n.arcs[k]).to.toNat default) tx.n.arcs[k] := by rw [List.getElem?_eq_getElem (by omega)] at hfe; exact Option.some.inj hfe
  rw [hfe'] at hfk
  have r0 : w.cell? ⟨px.ga, nd, none⟩ = some (.slice (some ⟨fg, 0, none⟩) tx.n.arcs.length (px.rows[nd]).vc) := by
    rw [cell_blk hpi.av, List.getElem?_toArray, hav, FR.val, hfo, hfl]
  have n0 := hnat.c0
  rw [hvo] at n0
  rcases hat.row with h0 | ⟨lb, lo, rfl, _, hlc⟩
  · rw [ints_length] at h0; omega
  have hin : MvIn w tb (some ⟨lb, lo, none⟩) L t.init.length t.procs.length p nd k qg qqc px.l.length px.g px.nc vg tx.vc tx.n.arcs.length vg fg (px.rows[nd]).vc px.ga tx.n.arcs[k] (footN t.props tx.n (px.l.getD (tx.n.arcs[k]).to.toNat default) tx.n.arcs[k]) :=
    ⟨c3, by omega, hx.c0, hx.c1, by omega, n0, hk, hta8 k hk, r0, hfk⟩
  exact tmove_in w F tb t h hm hF hT lb lo ac L hL (fun i hi => by
    have := hlc i (by rwa [ints_length])
    rw [this]
    simp [ints]) hs p k nd (by omega) hnd hin (foot_small hp60 _ _ (by omega) hta) _ hta (by omega)

end Go.Proofs.YtiinmaedmkgfoaaDoor
