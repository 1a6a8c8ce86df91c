/-
  PrCycle, PrBehind, PrCheck, NSeq, NOf.
-/
import Derived.Test.YtmlpndcelfdlhaaM19
import Derived.Test.YtmlpndcelfdlhaaM29
import Derived.Test.YtmlpndcelfdlhaaM30
/-
  Does a graph come round through acceptance: the reference's Cycle.
-/
set_option linter.unusedVariables false
set_option linter.unusedSimpArgs false
namespace Go.Proofs.Ytmlpndcelfdlhaa
open Go.RowKit

def roundAt (ns : List Node) (i : Nat) : Bool := ((reachN ns 0 0)[i]?.getD false && (ns[i]?.map Node.ac).getD false) && (reachN ns i 1)[i]?.getD false
def cycleN (ns : List Node) : Bool := (List.range ns.length).any (roundAt ns)

theorem any_found {n i : Nat} {f : Nat → Bool} (hi : i < n) (h : f i = true) : (List.range n).any f = true :=
  List.any_eq_true.2 ⟨i, List.mem_range.2 hi, h⟩
theorem any_step {i : Nat} {f : Nat → Bool} (h0 : (List.range i).any f = false) (h : f i = false) : (List.range (i + 1)).any f = false := by
  rw [List.range_succ, List.any_append, h0]
  simp [h]

set_option maxHeartbeats 8000000 in
set_option maxRecDepth 40000 in
theorem cycle_any (w : World) (ao : Option Addr) (cap : Nat) (ns : List Node) (h : NodesAt w w.heap.size ao ns) (hl : ns.length ≤ 20000) (ht : Toes ns) (h1 : 1 ≤ ns.length) :
    Calls Try.prog 12 #[.agg #[.slice ao ns.length cap]] w fun e w' => e = .returned (.bool (cycleN ns)) ∧ Nu w w' := by
  have HNS := hid h
  have HT := hid ht
  have HL := hid hl
  have HL1 := hid h1
  have hl1 : (ns.length : Int) ≤ 20000 := by omega
  clear h ht hl h1
  go_enter Try.func12, Try.ntmps12
  go_upto_region 1 with fail
  have HB0 : Hid ((w.alloc (.cells #[.slice ao ns.length cap] 24)).heap[w.heap.size]? = some (.cells #[.slice ao ns.length cap] 24 (0, 0))) := heap_alloc_new w _
  have HN0 : Hid (Nu w (w.alloc (.cells #[.slice ao ns.length cap] 24))) := Mv.alloc _ _ _
  generalize w.alloc (.cells #[.slice ao ns.length cap] 24) = w0 at *
  have c0 := cell_blk HB0.out 0
  have HR0 : Hid (Calls Try.prog 22 #[.agg #[.slice ao ns.length cap], .int .i64 0, .int .i64 0] w0 fun e w' => Nu w0 w' ∧ ∃ mb, e = .returned (.slice (some ⟨mb, 0, none⟩) ns.length ns.length) ∧ (reachN ns 0 0).length = ns.length ∧ ∀ i b, (reachN ns 0 0)[i]? = some b → w'.cell? ⟨mb, i, none⟩ = some (.bool b)) :=
    reach_any w0 ao cap ns (HNS.out.below HN0.out.nu_below HN0.out.size) HL.out HT.out 0 HL1.out 0
  go_upto_region 2 with (go_at_call 22; refine Calls.mono HR0.out ?_; rintro e w1 ⟨hn1, mb, rfl, hml, hmc⟩; have HN1 := hid hn1; have HMC := hid (And.intro hml hmc); clear hn1 hml hmc)
  have HNW : Hid (Nu w w1) := mv0 HN0.out HN1.out
  have HBX : Hid (w1.heap[w.heap.size]? = some (.cells #[.slice ao ns.length cap] 24 (0, 0))) := HN1.out.heap HB0.out id
  clear c0 HR0 HB0 HN0 HN1
  go_wp2_with fail
  go_loopw [4] (fun iv wr => ∃ i : Nat, i ≤ ns.length ∧ iv = .int .i64 (i : Int) ∧ Hid (Nu w1 wr) ∧ Hid ((List.range i).any (roundAt ns) = false)) (fun iv _ => ns.length - (intOf iv).toNat)
  case atStart => exact ⟨0, Nat.zero_le _, rfl, Mv.refl _ _, rfl⟩
  case round =>
    obtain ⟨i, hi, rfl, HNR, HAN⟩ := hrel
    rcases Nat.lt_or_ge i ns.length with hlt | hge
    · have hlt' : (i : Int) < (ns.length : Int) := by omega
      rcases HNS.out.row with h0 | ⟨nb, no, hao, hnb, hit⟩
      · omega
      subst hao
      have c0 := cell_blk (HNR.out.heap HBX.out id) 0
      obtain ⟨bm, hbm⟩ : ∃ bm, (reachN ns 0 0)[i]? = some bm := ⟨_, List.getElem?_eq_getElem (by rw [HMC.out.1]; exact hlt)⟩
      have c1 := cell_mv HNR.out (HMC.out.2 i bm hbm) id
      have c2 := cell_mv (mv0 HNW.out HNR.out) (hit i hlt).c4 id
      have HAC : Hid ((ns[i]?.map Node.ac).getD false = ns[i].ac) := by show _ = _; rw [List.getElem?_eq_getElem hlt]; rfl
      generalize ns[i].ac = ac at *
      have HBM := hid hbm
      have HLT := hid hlt
      clear hit hnb hbm
      cases bm with
      | false =>
        have HF : Hid ((List.range (i + 1)).any (roundAt ns) = false) := any_step HAN.out (by unfold roundAt; rw [HBM.out]; rfl)
        go_wp2_with fail
        go_roundw
        case rel => exact ⟨i + 1, HLT.out, by go_num, HNR.out, HF.out⟩
        case measure => have := HLT.out; simp [intOf]; omega
      | true =>
        cases ac with
        | false =>
          have HF : Hid ((List.range (i + 1)).any (roundAt ns) = false) := any_step HAN.out (by unfold roundAt; rw [HBM.out, HAC.out]; rfl)
          go_wp2_with fail
          go_roundw
          case rel => exact ⟨i + 1, HLT.out, by go_num, HNR.out, HF.out⟩
          case measure => have := HLT.out; simp [intOf]; omega
        | true =>
          have HRI : Hid _ := reach_any wr (some ⟨nb, no, none⟩) cap ns (HNS.out.below (mv0 HNW.out HNR.out).nu_below (mv0 HNW.out HNR.out).size) HL.out HT.out i hlt 1
          go_upto_region 6 with fail
          clear c1 c2
          go_upto_region 7 with (go_at_call 22; refine Calls.mono HRI.out ?_; rintro e w2 ⟨hn2, mb2, rfl, hml, hmc⟩; have HN2 := hid hn2; have HM2 := hid (And.intro hml hmc); clear hn2 hml hmc)
          clear c0 HRI
          obtain ⟨br, hbr⟩ : ∃ br, (reachN ns i 1)[i]? = some br := ⟨_, List.getElem?_eq_getElem (by rw [HM2.out.1]; exact hlt)⟩
          have c1 := HM2.out.2 i br hbr
          have HBR := hid hbr
          clear hbr
          cases br with
          | false =>
            have HF : Hid ((List.range (i + 1)).any (roundAt ns) = false) := any_step HAN.out (by unfold roundAt; rw [HBM.out, HAC.out, HBR.out]; rfl)
            have HN3 := hid (mv0 HNR.out HN2.out)
            go_wp2_with fail
            go_roundw
            case rel => exact ⟨i + 1, HLT.out, by go_num, HN3.out, HF.out⟩
            case measure => have := HLT.out; simp [intOf]; omega
          | true =>
            have HF : Hid (cycleN ns = true) := any_found HLT.out (by unfold roundAt; rw [HBM.out, HAC.out, HBR.out]; rfl)
            have HN3 := hid (mv0 HNW.out (mv0 HNR.out HN2.out))
            go_wp2_with fail
            go_ret
            exact ⟨by rw [HF.out]; rfl, HN3.out⟩
    · obtain rfl : i = ns.length := by omega
      have HF : Hid (cycleN ns = false) := HAN.out
      have c0 := cell_blk (HNR.out.heap HBX.out id) 0
      go_wp2_with fail
      go_ret
      exact ⟨by rw [HF.out]; rfl, mv0 HNW.out HNR.out⟩

end Go.Proofs.Ytmlpndcelfdlhaa
/-
  A system beside an automaton: behind, the numbers' bytes of the states that the automaton goes to with a letter.
-/
set_option linter.unusedVariables false
set_option linter.unusedSimpArgs false
namespace Go.Proofs.Ytmlpndcelfdlhaa
open Go.RowKit

/-- What is found among the first j moves. -/
def tosTo (l : List AMv) (p : Int) (j : Nat) : List ByteArray := ((l.take j).filter fun m => hasG m.yes m.no p).map fun m => nst m.to
theorem tosTo_yes {l : List AMv} {p : Int} {j : Nat} (h : j < l.length) (hg : hasG l[j].yes l[j].no p = true) : tosTo l p (j + 1) = tosTo l p j ++ [nst l[j].to] := by
  unfold tosTo
  rw [List.take_add_one, List.getElem?_eq_getElem h, Option.toList_some, List.filter_append, List.map_append]
  simp [hg]
theorem tosTo_no {l : List AMv} {p : Int} {j : Nat} (h : j < l.length) (hg : hasG l[j].yes l[j].no p = false) : tosTo l p (j + 1) = tosTo l p j := by
  unfold tosTo
  rw [List.take_add_one, List.getElem?_eq_getElem h, Option.toList_some, List.filter_append, List.map_append]
  simp [hg]
theorem tosTo_len (l : List AMv) (p : Int) (j : Nat) : (tosTo l p j).length ≤ j := by
  unfold tosTo
  rw [List.length_map]
  refine Nat.le_trans (List.length_filter_le _ _) ?_
  rw [List.length_take]
  omega
theorem tosTo_all {A : List ASt} {q : Nat} (hq : q < A.length) (p : Int) : tosTo A[q].mvs p A[q].mvs.length = tosA A q p := by
  unfold tosTo tosA
  rw [List.getElem?_eq_getElem hq, List.take_length]

theorem p_infoStr : (Try.prog.info? 9).map (fun i => (i.zero, i.size, i.bytes)) = some (some (.string ⟨#[]⟩), 1, 16) := by kernel_rfl
theorem p_info_parts {t : TypeId} {z : Value} {s b : Nat} (h : (Try.prog.info? t).map (fun i => (i.zero, i.size, i.bytes)) = some (some z, s, b)) : ∃ i, Try.prog.info? t = some i ∧ i.zero = some z ∧ i.size = s ∧ i.bytes = b := by
  cases hi : Try.prog.info? t with
  | none => rw [hi] at h; cases h
  | some i => rw [hi] at h; simp at h; exact ⟨i, rfl, h.1, h.2.1, h.2.2⟩

/-- Texts in a row that is its owner's. -/
theorem strs_of_row {w : World} {H : Nat} {ao : Option Addr} {cap : Nat} {l : List ByteArray} (h : w.ownsRow H 9 1 (.slice ao l.length cap) l.length (l.map Value.string)) (hl : (l.length : Int) ≤ 9223372036854775807) : StrsAt w w.heap.size ao l := by
  refine ⟨hl, ?_⟩
  rcases h.2 with ⟨hv, hn⟩ | ⟨g, cap', cur, hv, hg, hblk, hle, hmax, hsz, hcur⟩
  · exact .inl hn
  · simp only [Value.slice.injEq] at hv
    obtain ⟨rfl, _, rfl⟩ := hv
    refine .inr ⟨g, 0, rfl, lt_of_block hblk, fun i hi => ?_⟩
    have := h.cells (g := g) rfl i (.string l[i]) (by rw [List.getElem?_map, List.getElem?_eq_getElem hi]; rfl)
    rw [add_block] at this
    rwa [Nat.zero_add]

theorem new_of_row {w : World} {H n m cap size : Nat} {e : TypeId} {ao : Option Addr} {xs : List Value} (h : w.ownsRow H e size (.slice ao m cap) n xs) : ∀ a, ao = some a → H ≤ a.block := by
  intro a ha
  rcases h.2 with ⟨hv, hn⟩ | ⟨g, cap', cur, hv, hg, _⟩
  · simp only [Value.slice.injEq] at hv
    rw [hv.1] at ha
    cases ha
  · simp only [Value.slice.injEq] at hv
    rw [hv.1] at ha
    cases ha
    exact hg

def RBh (pb so sc no nc q len mb mc ml j to cap l : Nat) (ao : Option Addr) (B : Nat) : Nat → World → Value → Prop
  | 0, _, v => v = .slice ao l cap
  | 1, _, v => v = .pointer (some ⟨pb, 0, none⟩)
  | 2, _, v => v = .pointer (some ⟨pb, 0, none⟩)
  | 3, _, v => v = .pointer (some ⟨pb, 2, none⟩)
  | 4, _, v => v = .slice (some ⟨no, 0, none⟩) len nc
  | 5, _, v => v = .pointer (some ⟨so, q * 2, none⟩)
  | 6, _, v => v = .pointer (some ⟨so, q * 2, none⟩)
  | 7, _, v => v = .pointer (some ⟨so, q * 2 + 1, none⟩)
  | 8, _, v => v = .slice (some ⟨mb, 0, none⟩) ml mc
  | 9, _, v => v = .int .i64 (j : Int)
  | 10, _, v => v = .pointer (some ⟨mb, j * 3, none⟩)
  | 11, _, v => v = .pointer (some ⟨mb, j * 3 + 2, none⟩)
  | 12, _, v => v = .int .i64 (to : Int)
  | 13, _, v => v = .pointer (some ⟨no, to, none⟩)
  | 14, _, v => v = .string (nst to)
  | 15, w, v => ∃ rb, v = .slice (some ⟨rb, 0, none⟩) 1 1 ∧ w.heap[rb]? = some (.cells #[.string (nst to)] 9 (0, 0)) ∧ B ≤ rb
  | _ + 16, _, _ => False
theorem RBh.nu {pb so sc no nc q len mb mc ml j to cap l : Nat} {ao : Option Addr} {B : Nat} : ∀ i w w' v, Nu w w' → RBh pb so sc no nc q len mb mc ml j to cap l ao B i w v → RBh pb so sc no nc q len mb mc ml j to cap l ao B i w' v := by
  intro i w w' v hn h
  match i with
  | 0 | 1 | 2 | 3 | 4 | 5 | 6 | 7 | 8 | 9 | 10 | 11 | 12 | 13 | 14 => exact h
  | 15 => obtain ⟨rb, h1, h2, h3⟩ := h; exact ⟨rb, h1, hn.heap h2 id, h3⟩
  | _ + 16 => exact h

set_option maxHeartbeats 8000000 in
set_option maxRecDepth 40000 in
theorem behind_any (w : World) (F : Nat → Prop) (pb : Nat) (sv : Value) (A : List ASt) (so sc no nc : Nat) (h : PairIs w F pb sv A so sc no nc) (hF : ∀ b, F b → b < w.heap.size) (q : Nat) (hq : q < A.length) (p : Int) :
    Calls Try.prog 70 #[.pointer (some ⟨pb, 0, none⟩), .pointer (some ⟨so, q * 2, none⟩), .int .u64 p] w fun e w' => Nu w w' ∧ ∃ ao cap, e = .returned (.slice ao (tosA A q p).length cap) ∧ StrsAt w' w'.heap.size ao (tosA A q p) ∧ ∀ a, ao = some a → w.heap.size ≤ a.block := by
  have HP := hid h
  have HF := hid hF
  obtain ⟨mo, mc, hmo, hmv⟩ := (h.sts q hq).2
  obtain ⟨hml, hto⟩ := h.tos A[q] (List.getElem_mem hq)
  have HTA : Hid _ := tosTo_all hq p
  rw [← HTA.out]
  clear HTA hF h
  generalize A[q].mvs = L at *
  clear hq
  have HC := hid hmo
  have HMV := hid hmv
  have HTO := hid hto
  have hll := hml
  clear hmo hmv hto hml
  have c1 := HC.out
  go_enter Try.func70, Try.ntmps70
  go_wp2_with fail
  go_loopw [7, 14] (fun sv iv wr => ∃ (j : Nat) (ao : Option Addr) (cap : Nat), j ≤ L.length ∧ iv = .int .i64 (j : Int) ∧ sv = .slice ao (tosTo L p j).length cap ∧ Hid (wr.ownsRow w.heap.size 9 1 (.slice ao (tosTo L p j).length cap) (tosTo L p j).length ((tosTo L p j).map Value.string)) ∧ Hid (Nu w wr)) (fun _ iv _ => L.length - (intOf iv).toNat)
  case atStart => exact ⟨0, none, 0, Nat.zero_le _, rfl, rfl, World.ownsRow_nil _ _ _ _, Mv.refl _ _⟩
  case round =>
    obtain ⟨j, ao, cap, hj, rfl, rfl, HOW, HNR⟩ := hrel
    rcases Nat.lt_or_ge j L.length with hlt | hge
    · have hlt' : (j : Int) < (L.length : Int) := by omega
      have HLT : Hid (j < L.length) := hlt
      rcases HMV.out with h0 | ⟨mb, rfl, hfm, hmt⟩
      · omega
      obtain ⟨g0, g1, g2⟩ := hmt j hlt
      have hto := HTO.out L[j] (List.getElem_mem hlt)
      have HYES := hid (fun h => tosTo_yes (p := p) hlt h)
      have HNO := hid (fun h => tosTo_no (p := p) hlt h)
      have HTL : Hid _ := tosTo_len L p j
      generalize L[j] = m at *
      have HTM := hid hto
      clear hmt hlt hto HMV
      replace g0 := cell_mv HNR.out g0 id
      replace g1 := cell_mv HNR.out g1 id
      replace g2 := cell_mv HNR.out g2 id
      replace c1 := cell_mv HNR.out HC.out id
      cases hg : hasG m.yes m.no p with
      | false =>
        have HHA : Hid (∀ W, Calls Try.prog 73 #[.agg #[.int .u64 m.yes, .int .u64 m.no], .int .u64 p] W fun e w' => e = .returned (.bool false) ∧ Nu W w') := fun W => (gHas_any W m.yes m.no p).mono (by rintro e w' ⟨rfl, h⟩; rw [hg]; exact ⟨rfl, h⟩)
        have HN1 := hid (HNO.out hg)
        clear hg HYES HNO
        go_wp2_with (go_at_call 73; refine Calls.mono (HHA.out _) ?_; rintro e w2 ⟨rfl, hn2⟩; have HN2 := hid (mv0 HNR.out hn2); have HO2 := hid (row_mv hn2 HOW.out (fun _ _ => id)); clear hn2)
        go_roundw
        case rel => exact ⟨j + 1, ao, cap, HLT.out, by go_num, by rw [HN1.out], by rw [HN1.out]; exact HO2.out, HN2.out⟩
        case measure => have := HLT.out; simp [intOf]; omega
      | true =>
        have HHA : Hid (∀ W, Calls Try.prog 73 #[.agg #[.int .u64 m.yes, .int .u64 m.no], .int .u64 p] W fun e w' => e = .returned (.bool true) ∧ Nu W w') := fun W => (gHas_any W m.yes m.no p).mono (by rintro e w' ⟨rfl, h⟩; rw [hg]; exact ⟨rfl, h⟩)
        have HN1 := hid (HYES.out hg)
        clear hg HYES HNO
        go_upto_region 6 with (go_at_call 73; refine Calls.mono (HHA.out _) ?_; rintro e w2 ⟨rfl, hn2⟩; have HN2 := hid (mv0 HNR.out hn2); have HO2 := hid (row_mv hn2 HOW.out (fun _ _ => id)); have HM2 := hid hn2; clear hn2)
        replace g2 := cell_mv HM2.out g2 id
        clear g0 g1 c1 HOW HHA
        generalize hl : tosTo L p j = l at *
        rename_i KC hKC
        have HPN : Hid (PairIs w2 F pb sv A so sc no nc) := HP.out.nu HF.out HN2.out
        have HC2 : Hid (w2.cell? ⟨so, q * 2 + 1, none⟩ = some (.slice (some ⟨mb, 0, none⟩) L.length mc)) := cell_mv HN2.out HC.out id
        have HG2 := hid g2
        have HSZ : Hid (w.heap.size ≤ w2.heap.size) := HN2.out.size
        clear g2 HNR HM2 HP HF HC
        refine wp_tail2 16 (.slice ao l.length cap) _ 27 (RBh pb so sc no nc q A.length mb mc L.length j m.to cap l.length ao w2.heap.size) RBh.nu (by kernel_rfl) (by kernel_rfl) rfl rfl (by kernel_rfl) (by kernel_rfl) (by kernel_rfl) (fun _ _ _ h => h) (.inl ⟨by rfl, fun w => by rfl⟩) rfl ?hcl ?step6 ?tail6
        case hcl =>
          intro l' hcl h0 hy i hi
          have hy := hy _ rfl
          have h15 := hy ⟨15, .data⟩ (by simp) rfl
          have h14 := hcl 15 _ rfl h15 ⟨14, .data⟩ (by simp) rfl
          have h13 := hcl 14 _ rfl h14 ⟨13, .data⟩ (by simp) rfl
          have h4 := hcl 13 _ rfl h13 ⟨4, .data⟩ (by simp) rfl
          have h12 := hcl 13 _ rfl h13 ⟨12, .data⟩ (by simp) rfl
          have h11 := hcl 12 _ rfl h12 ⟨11, .data⟩ (by simp) rfl
          have h10 := hcl 11 _ rfl h11 ⟨10, .data⟩ (by simp) rfl
          have h8 := hcl 10 _ rfl h10 ⟨8, .data⟩ (by simp) rfl
          have h9 := hcl 10 _ rfl h10 ⟨9, .data⟩ (by simp) rfl
          have h7 := hcl 8 _ rfl h8 ⟨7, .data⟩ (by simp) rfl
          have h6 := hcl 7 _ rfl h7 ⟨6, .data⟩ (by simp) rfl
          have h5 := hcl 6 _ rfl h6 ⟨5, .data⟩ (by simp) rfl
          have h3 := hcl 4 _ rfl h4 ⟨3, .data⟩ (by simp) rfl
          have h2 := hcl 3 _ rfl h3 ⟨2, .data⟩ (by simp) rfl
          have h1 := hcl 2 _ rfl h2 ⟨1, .data⟩ (by simp) rfl
          have : i = 0 ∨ i = 1 ∨ i = 2 ∨ i = 3 ∨ i = 4 ∨ i = 5 ∨ i = 6 ∨ i = 7 ∨ i = 8 ∨ i = 9 ∨ i = 10 ∨ i = 11 ∨ i = 12 ∨ i = 13 ∨ i = 14 ∨ i = 15 := by omega
          rcases this with rfl | rfl | rfl | rfl | rfl | rfl | rfl | rfl | rfl | rfl | rfl | rfl | rfl | rfl | rfl | rfl <;> assumption
        case step6 =>
          intro i o d a w' hi ho' hd' hn hfr had K hK
          have f0 := hfr 0 (by kernel_rfl)
          have f1 := hfr 1 (by kernel_rfl)
          have f8 := hfr 8 (by kernel_rfl)
          have : i = 0 ∨ i = 1 ∨ i = 2 ∨ i = 3 ∨ i = 4 ∨ i = 5 ∨ i = 6 ∨ i = 7 ∨ i = 8 ∨ i = 9 ∨ i = 10 ∨ i = 11 ∨ i = 12 ∨ i = 13 ∨ i = 14 ∨ i = 15 := by omega
          have hblk := hn.heap HPN.out.blk id
          rcases this with rfl | rfl | rfl | rfl | rfl | rfl | rfl | rfl | rfl | rfl | rfl | rfl | rfl | rfl | rfl | rfl
          · cases ho'; cases hd'; exact ite_yes (want_none rfl) (lk_move rfl rfl (hfr 7 (by kernel_rfl)) (fun w' hm => hK w' _ hm rfl))
          · cases ho'; cases hd'; exact ite_yes (want_none rfl) (lk_move rfl rfl f0 (fun w' hm => hK w' _ hm rfl))
          · cases ho'; cases hd'; obtain ⟨⟨_, h0, rfl⟩, _⟩ := had; exact ite_yes (want_none rfl) (lk_nilPr rfl rfl h0 (fun w' hm => hK w' _ hm rfl))
          · cases ho'; cases hd'; obtain ⟨⟨_, h0, rfl⟩, _⟩ := had; exact ite_yes (want_none rfl) (lk_fieldPr2 rfl rfl h0 (fun w' hm => hK w' _ hm rfl))
          · cases ho'; cases hd'; obtain ⟨⟨_, h0, rfl⟩, _⟩ := had; exact ite_yes (want_none rfl) (lk_ldStrs rfl rfl h0 (cell_blk hblk 2) (fun w' hm => hK w' _ hm rfl))
          · cases ho'; cases hd'; exact ite_yes (want_none rfl) (lk_move rfl rfl f1 (fun w' hm => hK w' _ hm rfl))
          · cases ho'; cases hd'; obtain ⟨⟨_, h0, rfl⟩, _⟩ := had; exact ite_yes (want_none rfl) (lk_nilPr rfl rfl h0 (fun w' hm => hK w' _ hm rfl))
          · cases ho'; cases hd'; obtain ⟨⟨_, h0, rfl⟩, _⟩ := had; exact ite_yes (want_none rfl) (lk_fieldSt1 rfl rfl h0 (fun w' hm => hK w' _ hm rfl))
          · cases ho'; cases hd'; obtain ⟨⟨_, h0, rfl⟩, _⟩ := had; exact ite_yes (want_none rfl) (lk_ldMvs rfl rfl h0 (cell_mv hn HC2.out id) (fun w' hm => hK w' _ hm rfl))
          · cases ho'; cases hd'; exact ite_yes (want_none rfl) (lk_move rfl rfl f8 (fun w' hm => hK w' _ hm rfl))
          · cases ho'; cases hd'; obtain ⟨⟨_, h0, rfl⟩, ⟨_, h1, rfl⟩, _⟩ := had; exact ite_yes (want_none rfl) (lk_idxM rfl rfl h0 h1 HLT.out (fun w' hm => hK w' _ hm rfl))
          · cases ho'; cases hd'; obtain ⟨⟨_, h0, rfl⟩, _⟩ := had; exact ite_yes (want_none rfl) (lk_fieldMv1 rfl rfl h0 (fun w' hm => hK w' _ hm rfl))
          · cases ho'; cases hd'; obtain ⟨⟨_, h0, rfl⟩, _⟩ := had; exact ite_yes (want_none rfl) (lk_ldI rfl rfl h0 (cell_mv hn HG2.out id) (fun w' hm => hK w' _ hm rfl))
          · cases ho'; cases hd'; obtain ⟨⟨_, h0, rfl⟩, ⟨_, h1, rfl⟩, _⟩ := had; exact ite_yes (want_none rfl) (lk_idxSp rfl rfl h0 h1 HTM.out (fun w' hm => hK w' _ hm rfl))
          · cases ho'; cases hd'; obtain ⟨⟨_, h0, rfl⟩, _⟩ := had; exact ite_yes (want_none rfl) (lk_ldStr rfl rfl h0 (cell_mv hn (HPN.out.nums m.to HTM.out) id) (fun w' hm => hK w' _ hm rfl))
          · cases ho'; cases hd'; obtain ⟨⟨_, h0, rfl⟩, _⟩ := had; exact ite_yes (want_none rfl) (lk_rowStr rfl rfl h0 (hK _ _ (Mv.alloc _ _ _) ⟨_, rfl, heap_alloc_new _ _, hn.size⟩))
        case tail6 =>
          intro a w6 hn6 hdf hsz hfr htv
          obtain ⟨_, t15, rb, rfl, hbr, _⟩ := htv 15 _ 42 (by decide) rfl rfl
          have htm := fill_eqT (y := 16) (vals := fun i => ([.slice ao l.length cap, .pointer (some ⟨pb, 0, none⟩), .pointer (some ⟨pb, 0, none⟩), .pointer (some ⟨pb, 2, none⟩), .slice (some ⟨no, 0, none⟩) A.length nc, .pointer (some ⟨so, q * 2, none⟩), .pointer (some ⟨so, q * 2, none⟩), .pointer (some ⟨so, q * 2 + 1, none⟩), .slice (some ⟨mb, 0, none⟩) L.length mc, .int .i64 (j : Int), .pointer (some ⟨mb, j * 3, none⟩), .pointer (some ⟨mb, j * 3 + 2, none⟩), .int .i64 (m.to : Int), .pointer (some ⟨no, m.to, none⟩), .string (nst m.to), .slice (some ⟨rb, 0, none⟩) 1 1] : List Value).getD i undef) (by kernel_rfl) hfr (fun i o d hi ho' hd' => by
            obtain ⟨v, h, hv⟩ := htv i o d hi ho' hd'
            have : i = 0 ∨ i = 1 ∨ i = 2 ∨ i = 3 ∨ i = 4 ∨ i = 5 ∨ i = 6 ∨ i = 7 ∨ i = 8 ∨ i = 9 ∨ i = 10 ∨ i = 11 ∨ i = 12 ∨ i = 13 ∨ i = 14 ∨ i = 15 := by omega
            rcases this with rfl | rfl | rfl | rfl | rfl | rfl | rfl | rfl | rfl | rfl | rfl | rfl | rfl | rfl | rfl | rfl <;> cases ho' <;> cases hd' <;> first | exact t15 | exact h.trans (congrArg some hv))
          rw [act_eq' htm hdf]
          have HN6 := hid hn6
          have HBR := hid hbr
          clear htm hdf hsz hfr htv t15 hn6 hbr
          simp only [fill, List.take, List.getD_cons_succ, List.getD_cons_zero, List.setIfInBounds_toArray, List.set_cons_succ, List.set_cons_zero]
          show tailW _ _ [16, 17] _ _
          have HO6 := hid (row_mv HN6.out HO2.out (fun _ _ => id))
          have HS6 : Hid (w.heap.size ≤ w6.heap.size) := Nat.le_trans HSZ.out HN6.out.size
          obtain ⟨i1, hi1, hz1, hy1, hb1⟩ := p_info_parts p_infoStr
          refine ⟨_, rfl, rfl, wp_append_lies _ (.tmp 27) (.tmp 42) 43 rfl w.heap.size 9 i1 (.string ⟨#[]⟩) 1 16 Try.underlying43 hi1 hz1 hy1 hb1 rfl (by decide) (.slice ao l.length cap) l.length _ rfl HO6.out ⟨rb, 0, none⟩ 1 1 [.string (nst m.to)] rfl rfl (World.news_of_block HBR.out) (by intro u hu; simp at hu; subst hu; rfl) (by decide) (by have := HTL.out; have := HLT.out; unfold maxLen; omega) (by have := HTL.out; have := HLT.out; omega) HS6.out _ rfl ?_⟩
          intro g5 cap5 w7 hown hgrow hat hg5
          show tailW _ _ _ (Act.put _ (some 43) _) _
          simp only [Act.put, List.setIfInBounds_toArray, List.set_cons_succ, List.set_cons_zero]
          refine ⟨_, rfl, rfl, lk_assign rfl rfl rfl (fun w8 hw8 => ?_)⟩
          simp only [List.setIfInBounds_toArray, List.set_cons_succ, List.set_cons_zero]
          have hmg := Mv.grown hgrow
          have HN8 : Hid (Nu w w8) := ((mv0 HN2.out HN6.out).trans hmg (fun x hx => .inr (by have := (row_blk HO6.out hx).1; omega))).trans hw8 (fun _ h => h.elim)
          have HR8 : Hid (w8.ownsRow w.heap.size 9 1 (.slice (some ⟨g5, 0, none⟩) (tosTo L p (j + 1)).length cap5) (tosTo L p (j + 1)).length ((tosTo L p (j + 1)).map Value.string)) := by
            have := row_mv hw8 hown (fun _ _ => id)
            rw [HN1.out, List.map_append, List.length_append]
            exact this
          have HLN : Hid (l.length + 1 = (tosTo L p (j + 1)).length) := by show _ = _; rw [HN1.out]; simp
          clear hown hgrow hat hg5 hmg hw8 HO6 HBR HN6 hi1 hz1 hy1 hb1
          show Exit.inBlock 1 (Exit.then KC _) .normal _ _
          simp only [Exit.inBlock, Exit.then]
          refine hKC _ _ ?_
          clear hKC
          rw [HLN.out]
          clear HTL HLN
          go_wp2
          go_roundw
          case rel => exact ⟨j + 1, some ⟨g5, 0, none⟩, cap5, HLT.out, by go_num, rfl, HR8.out, HN8.out⟩
          case measure => have := HLT.out; simp [intOf]; omega
    · obtain rfl : j = L.length := by omega
      go_wp2
      go_ret
      exact ⟨HNR.out, ao, cap, rfl, strs_of_row HOW.out (by have := tosTo_len L p L.length; omega), new_of_row HOW.out⟩

end Go.Proofs.Ytmlpndcelfdlhaa
/-
  buchi.Check of an automaton that may be.
-/
set_option linter.unusedVariables false
set_option linter.unusedSimpArgs false
namespace Go.Proofs.Ytmlpndcelfdlhaa
open Go.RowKit

theorem cells3 {w : World} {b : Nat} {t : TypeId} {v0 v1 v2 : Value} (h : w.heap[b]? = some (.cells #[v0, v1, v2] t (0, 0))) : w.cell? ⟨b, 0, none⟩ = some v0 ∧ w.cell? ⟨b, 1, none⟩ = some v1 ∧ w.cell? ⟨b, 2, none⟩ = some v2 := ⟨cell_blk h 0, cell_blk h 1, cell_blk h 2⟩
theorem cells2 {w : World} {b : Nat} {t : TypeId} {v0 v1 : Value} (h : w.heap[b]? = some (.cells #[v0, v1] t (0, 0))) : w.cell? ⟨b, 0, none⟩ = some v0 ∧ w.cell? ⟨b, 1, none⟩ = some v1 := ⟨cell_blk h 0, cell_blk h 1⟩
theorem set3 {w : World} {b : Nat} {t : TypeId} {z0 z1 z2 v0 v1 v2 : Value} (h : w.heap[b]? = some (.cells #[z0, z1, z2] t (0, 0))) :
    (((w.setCell ⟨b, 0, none⟩ v0).setCell ⟨b, 1, none⟩ v1).setCell ⟨b, 2, none⟩ v2).heap[b]? = some (.cells #[v0, v1, v2] t (0, 0)) ∧ Mv (· = b) w (((w.setCell ⟨b, 0, none⟩ v0).setCell ⟨b, 1, none⟩ v1).setCell ⟨b, 2, none⟩ v2) := by
  have h0 := setCell_blk (i := 0) (u := v0) h
  have h1 := setCell_blk (i := 1) (u := v1) h0
  have h2 := setCell_blk (i := 2) (u := v2) h1
  simp only [List.setIfInBounds_toArray, List.set_cons_succ, List.set_cons_zero] at h2
  have m (W : World) (i : Nat) (u : Value) : Mv (· = b) W (W.setCell ⟨b, i, none⟩ u) := Mv.setCell W ⟨b, i, none⟩ u
  have t2 {A B C : World} (h : Mv (· = b) A B) (k : Mv (· = b) B C) : Mv (· = b) A C := h.trans k (fun _ h => .inl h)
  exact ⟨h2, t2 (t2 (m _ _ _) (m _ _ _)) (m _ _ _)⟩
theorem set2 {w : World} {b : Nat} {t : TypeId} {z0 z1 v0 v1 : Value} (h : w.heap[b]? = some (.cells #[z0, z1] t (0, 0))) :
    ((w.setCell ⟨b, 0, none⟩ v0).setCell ⟨b, 1, none⟩ v1).heap[b]? = some (.cells #[v0, v1] t (0, 0)) ∧ Mv (· = b) w ((w.setCell ⟨b, 0, none⟩ v0).setCell ⟨b, 1, none⟩ v1) := by
  have h0 := setCell_blk (i := 0) (u := v0) h
  have h1 := setCell_blk (i := 1) (u := v1) h0
  simp only [List.setIfInBounds_toArray, List.set_cons_succ, List.set_cons_zero] at h1
  have m (W : World) (i : Nat) (u : Value) : Mv (· = b) W (W.setCell ⟨b, i, none⟩ u) := Mv.setCell W ⟨b, i, none⟩ u
  exact ⟨h1, (m _ _ _).trans (m _ _ _) (fun _ h => .inl h)⟩

/-- A move that an automaton of n states may have. -/
def fineMv (n : Nat) (m : AMv) : Prop := bits .and .u64 m.yes m.no = 0 ∧ m.to < n

set_option maxHeartbeats 8000000 in
set_option maxRecDepth 40000 in
theorem mayMove_any (w : World) (F : Nat → Prop) (mo : Option Addr) (mc : Nat) (L : List AMv) (n : Nat) (h : MvsAt w F mo L) (hl : (L.length : Int) ≤ 131072) (hn : n ≤ 4096) (hf : ∀ m ∈ L, fineMv n m) :
    Calls Try.prog 30 #[.slice mo L.length mc, .int .i64 (n : Int)] w fun e w' => e = .returned (.bool true) ∧ Nu w w' := by
  have HMV := hid h
  have HFI := hid hf
  have hn1 : (n : Int) ≤ 4096 := by omega
  clear h hf hn
  go_enter Try.func30, Try.ntmps30
  go_wp2
  go_loopw [9] (fun iv wr => ∃ (j : Nat), j ≤ L.length ∧ iv = .int .i64 (j : Int) ∧ Hid (Nu w wr)) (fun iv _ => L.length - (intOf iv).toNat)
  case atStart => exact ⟨0, Nat.zero_le _, rfl, Mv.refl _ _⟩
  case round =>
    obtain ⟨j, hj, rfl, HNR⟩ := hrel
    rcases Nat.lt_or_ge j L.length with hlt | hge
    · have hlt' : (j : Int) < (L.length : Int) := by omega
      have HLT : Hid (j < L.length) := hlt
      rcases HMV.out with h0 | ⟨mb, rfl, hfm, hmt⟩
      · omega
      obtain ⟨g0, g1, g2⟩ := hmt j hlt
      obtain ⟨hb, hto⟩ := HFI.out L[j] (List.getElem_mem hlt)
      generalize L[j] = m at *
      replace g0 := cell_mv HNR.out g0 id
      replace g1 := cell_mv HNR.out g1 id
      replace g2 := cell_mv HNR.out g2 id
      have hb2 : (bits .and .u64 m.yes m.no == 0) = true := by simp [hb]
      have ht1 : ¬ (m.to : Int) < 0 := by omega
      have ht2 : ¬ (n : Nat) ≤ m.to := by omega
      clear hmt hlt hto HMV
      go_upto_region 4 with fail
      have HA : Hid ((wr.alloc (.cells #[.int .u64 m.yes, .int .u64 m.no, .int .i64 (m.to : Int)] 36)).heap[wr.heap.size]? = some (.cells #[.int .u64 m.yes, .int .u64 m.no, .int .i64 (m.to : Int)] 36 (0, 0))) := heap_alloc_new wr _
      have HN2 : Hid (Nu w (wr.alloc (.cells #[.int .u64 m.yes, .int .u64 m.no, .int .i64 (m.to : Int)] 36))) := mv0 HNR.out (Mv.alloc _ _ _)
      generalize wr.alloc (.cells #[.int .u64 m.yes, .int .u64 m.no, .int .i64 (m.to : Int)] 36) = w2 at *
      generalize wr.heap.size = ab at *
      clear g0 g1 g2
      obtain ⟨a0, a1, a2⟩ := cells3 HA.out
      go_wp2
      go_roundw
      case rel => exact ⟨j + 1, HLT.out, by go_num, HN2.out⟩
      case measure => have := HLT.out; simp [intOf]; omega
    · obtain rfl : j = L.length := by omega
      go_wp2
      go_ret
      exact ⟨rfl, HNR.out⟩

/-- An automaton's states as they lie. -/
def StsAt (W : World) (F : Nat → Prop) (so : Nat) (A : List ASt) : Prop := ∀ i (h : i < A.length), W.cell? ⟨so, i * 2, none⟩ = some (.bool A[i].acc) ∧ ∃ mo mc, W.cell? ⟨so, i * 2 + 1, none⟩ = some (.slice mo A[i].mvs.length mc) ∧ MvsAt W F mo A[i].mvs
def mvsTo (A : List ASt) (j : Nat) : Nat := ((A.take j).map fun a => a.mvs.length).sum
theorem mvsTo_step {A : List ASt} {j : Nat} (h : j < A.length) : mvsTo A (j + 1) = mvsTo A j + A[j].mvs.length := by
  unfold mvsTo
  rw [List.take_add_one, List.getElem?_eq_getElem h, Option.toList_some, List.map_append, List.sum_append]
  simp
theorem mvsTo_le (A : List ASt) (j : Nat) : mvsTo A j ≤ mvsTo A A.length := by
  by_cases h : j ≤ A.length
  · obtain ⟨k, hk⟩ : ∃ k, A.length = j + k := ⟨A.length - j, by omega⟩
    rw [hk]
    clear hk h
    induction k with
    | zero => exact Nat.le_refl _
    | succ k ih =>
      refine Nat.le_trans ih ?_
      by_cases h : j + k < A.length
      · have := mvsTo_step h
        rw [show j + (k + 1) = j + k + 1 by omega]
        omega
      · unfold mvsTo
        rw [List.take_of_length_le (by omega), List.take_of_length_le (by omega)]
        exact Nat.le_refl _
  · unfold mvsTo
    rw [List.take_of_length_le (by omega), List.take_of_length_le (Nat.le_refl _)]
    exact Nat.le_refl _

/-- An automaton that may be. -/
structure FineA (A : List ASt) : Prop where
  len : 1 ≤ A.length ∧ A.length ≤ 4096
  sum : mvsTo A A.length ≤ 131072
  mvs : ∀ a ∈ A, ∀ m ∈ a.mvs, fineMv A.length m

theorem MvsAt.nu {w w' : World} {F : Nat → Prop} {mo : Option Addr} {l : List AMv} (h : MvsAt w F mo l) (hF : ∀ b, F b → b < w.heap.size) (hk : Nu w w') : MvsAt w' F mo l := h.keep (hk.keep fun b hb => ⟨hF b hb, id⟩)

set_option maxHeartbeats 8000000 in
set_option maxRecDepth 40000 in
theorem mayBe_any (w : World) (F : Nat → Prop) (hF : ∀ b, F b → b < w.heap.size) (so sc : Nat) (A : List ASt) (h : StsAt w F so A) (hf : FineA A) :
    Calls Try.prog 23 #[.agg #[.slice (some ⟨so, 0, none⟩) A.length sc]] w fun e w' => e = .returned (.bool true) ∧ Nu w w' := by
  have HST := hid h
  have HFI := hid hf
  have HF := hid hF
  have hl1 : (A.length : Int) ≤ 4096 := by have := hf.len; omega
  have hl0 : ((A.length : Int) == 0) = false := by have := hf.len; exact beq_eq_false_iff_ne.2 (by omega)
  have hl2 : ¬ (4096 : Int) < (A.length : Int) := by have := hf.len; omega
  clear h hf hF
  go_enter Try.func23, Try.ntmps23
  go_upto_region 1 with fail
  have HA1 : Hid ((w.alloc (.cells #[.slice (some ⟨so, 0, none⟩) A.length sc] 42)).heap[w.heap.size]? = some (.cells #[.slice (some ⟨so, 0, none⟩) A.length sc] 42 (0, 0))) := heap_alloc_new w _
  have HN1 : Hid (Nu w (w.alloc (.cells #[.slice (some ⟨so, 0, none⟩) A.length sc] 42))) := Mv.alloc _ _ _
  generalize w.alloc (.cells #[.slice (some ⟨so, 0, none⟩) A.length sc] 42) = w1 at *
  have b0 := cell_blk HA1.out 0
  simp only [List.size_toArray, List.length_cons, List.length_nil, Nat.reduceAdd, Nat.lt_add_one, Nat.reduceLT, getElem?_pos, List.getElem_toArray, List.getElem_cons_zero, List.getElem_cons_succ, Nat.zero_lt_succ] at b0
  go_wp2
  go_loopw [3, 19] (fun lv iv wr => ∃ (j : Nat), j ≤ A.length ∧ iv = .int .i64 (j : Int) ∧ lv = .int .i64 ((131072 : Int) - (mvsTo A j : Int)) ∧ Hid (Nu w1 wr)) (fun _ iv _ => A.length - (intOf iv).toNat)
  case atStart => exact ⟨0, Nat.zero_le _, rfl, rfl, Mv.refl _ _⟩
  case round =>
    obtain ⟨j, hj, rfl, rfl, HNR⟩ := hrel
    rcases Nat.lt_or_ge j A.length with hlt | hge
    · have hlt' : (j : Int) < (A.length : Int) := by omega
      have HLT : Hid (j < A.length) := hlt
      have HNW : Hid (Nu w wr) := mv0 HN1.out HNR.out
      obtain ⟨g0, mo, mc, g1, hmv⟩ := HST.out j hlt
      have HSU := hid (mvsTo_step hlt)
      have HMV := hid (hmv.nu HF.out HNW.out)
      have HMF := hid (HFI.out.mvs A[j] (List.getElem_mem hlt))
      have hsl := mvsTo_le A (j + 1)
      have hsa := HFI.out.sum
      generalize A[j] = a at *
      have hs1 := HSU.out
      replace g0 := cell_mv HNW.out g0 id
      replace g1 := cell_mv HNW.out g1 id
      replace b0 := cell_mv HNR.out b0 id
      have hml : (a.mvs.length : Int) ≤ 131072 := by omega
      have hsm : ((mvsTo A j : Nat) : Int) + (a.mvs.length : Int) ≤ 131072 := by omega
      clear hmv hlt hsl hsa hs1
      generalize mvsTo A j = s at *
      go_upto_region 7 with fail
      have HA : Hid ((wr.alloc (.cells #[.bool a.acc, .slice mo a.mvs.length mc] 39)).heap[wr.heap.size]? = some (.cells #[.bool a.acc, .slice mo a.mvs.length mc] 39 (0, 0))) := heap_alloc_new wr _
      have HA2 : Hid (Nu wr (wr.alloc (.cells #[.bool a.acc, .slice mo a.mvs.length mc] 39))) := Mv.alloc _ _ _
      generalize wr.alloc (.cells #[.bool a.acc, .slice mo a.mvs.length mc] 39) = w2 at *
      generalize wr.heap.size = ab at *
      clear g0 g1
      replace b0 := cell_mv HA2.out b0 id
      obtain ⟨a0, a1⟩ := cells2 HA.out
      have HN2 : Hid (Nu w w2) := mv0 HNW.out HA2.out
      have HNF : Hid (∀ b, F b → b < w2.heap.size) := fun b hb => Nat.lt_of_lt_of_le (HF.out b hb) HN2.out.size
      have HCM := hid (mayMove_any w2 F mo mc a.mvs A.length (HMV.out.nu (fun b hb => Nat.lt_of_lt_of_le (HF.out b hb) HNW.out.size) HA2.out) hml HFI.out.len.2 HMF.out)
      have HSM : Hid (((s : Nat) : Int) + (a.mvs.length : Int) ≤ 131072) := hsm
      have hw : IntKind.i64.wrap (131072 - (s : Int) - (a.mvs.length : Int)) = 131072 - (s : Int) - (a.mvs.length : Int) := by rw [IntKind.wrap_i64]; omega
      have hng : ¬ 131072 - (s : Int) - (a.mvs.length : Int) < 0 := by omega
      clear hsm
      go_wp2_with (go_at_call 30; refine Calls.mono HCM.out ?_; rintro e w3 ⟨rfl, hn3⟩; have HN3 := hid (mv0 (mv0 HNR.out HA2.out) hn3); clear hn3)
      go_roundw
      case rel => exact ⟨j + 1, HLT.out, by go_num, by rw [HSU.out]; go_num, HN3.out⟩
      case measure => have := HLT.out; simp [intOf]; omega
    · obtain rfl : j = A.length := by omega
      go_wp2
      go_ret
      exact ⟨rfl, mv0 HN1.out HNR.out⟩

theorem buchiCheck_any (w : World) (F : Nat → Prop) (hF : ∀ b, F b → b < w.heap.size) (so sc : Nat) (A : List ASt) (h : StsAt w F so A) (hf : FineA A) :
    Calls Try.prog 13 #[.agg #[.slice (some ⟨so, 0, none⟩) A.length sc]] w fun e w' => e = .returned (.int .i64 0) ∧ Nu w w' := by
  have HK : Hid (∀ W, Nu w W → Calls Try.prog 23 #[.agg #[.slice (some ⟨so, 0, none⟩) A.length sc]] W fun e w' => e = .returned (.bool true) ∧ Nu W w') := fun W hW => by
    have hk : KeepF F w W := hW.keep fun b hb => ⟨hF b hb, id⟩
    exact mayBe_any W F (fun b hb => Nat.lt_of_lt_of_le (hF b hb) hW.size) so sc A (fun i hi => ⟨cell_mv hW (h i hi).1 id, by
      obtain ⟨mo, mc, h1, h2⟩ := (h i hi).2
      exact ⟨mo, mc, cell_mv hW h1 id, h2.keep hk⟩⟩) hf
  clear h hf hF
  go_enter Try.func13, Try.ntmps13
  go_upto_region 1 with fail
  have HA1 : Hid ((w.alloc (.cells #[.slice (some ⟨so, 0, none⟩) A.length sc] 42)).heap[w.heap.size]? = some (.cells #[.slice (some ⟨so, 0, none⟩) A.length sc] 42 (0, 0))) := heap_alloc_new w _
  have HN1 : Hid (Nu w (w.alloc (.cells #[.slice (some ⟨so, 0, none⟩) A.length sc] 42))) := Mv.alloc _ _ _
  generalize w.alloc (.cells #[.slice (some ⟨so, 0, none⟩) A.length sc] 42) = w1 at *
  have b0 : w1.cell? ⟨w.heap.size, 0, none⟩ = some (.slice (some ⟨so, 0, none⟩) A.length sc) := cell_blk HA1.out 0
  go_wp2_with (go_at_call 23; refine Calls.mono (HK.out _ HN1.out) ?_; rintro e w3 ⟨rfl, hn3⟩; have HN3 := hid (mv0 HN1.out hn3); clear hn3)
  go_ret
  exact ⟨rfl, HN3.out⟩

end Go.Proofs.Ytmlpndcelfdlhaa
/-
  A graph's moves, one by one: the program's Next and what it hands back.
-/
set_option linter.unusedVariables false
set_option linter.unusedSimpArgs false
namespace Go.Proofs.Ytmlpndcelfdlhaa
open Go.RowKit

section
variable {o : Oper} {a : Act} {w : World} {K : Act → World → Prop} {Q : Exit → Act → World → Prop} {d : Nat}

theorem lk_idxAo {s r g f n i c : Nat} (hi : i < n) (hd : o.dst = some d) (ho : o.op = .indexAddr 46 (.tmp s) (.tmp r)) (hs : a.tmps[s]? = some (.slice (some ⟨g, f, none⟩) n c)) (hr : a.tmps[r]? = some (.int .i64 (i : Int))) (hK : ∀ w', Nu w w' → K ⟨a.tmps.setIfInBounds d (.pointer (some ⟨g, f + i * 6, none⟩)), a.defers⟩ w') : Oper.wp Try.prog o a w K Q := by
  have hes : a.eval (.tmp s) = .slice (some ⟨g, f, none⟩) n c := by simp [Act.eval, hs]
  have her : a.eval (.tmp r) = .int .i64 (i : Int) := by simp [Act.eval, hr]
  have hi' : (i : Int) < (n : Int) := by omega
  unfold Oper.wp execOp
  simp only [ho, hd]
  go_simp
  exact hK w (Mv.refl _ _)
theorem lk_loadG {s b f : Nat} {v : Value} (hd : o.dst = some d) (ho : o.op = .load 54 (.tmp s)) (hs : a.tmps[s]? = some (.pointer (some ⟨b, f, none⟩))) (h0 : w.cell? ⟨b, f, none⟩ = some v) (hK : ∀ w', Nu w w' → K ⟨a.tmps.setIfInBounds d v, a.defers⟩ w') : Oper.wp Try.prog o a w K Q := by
  have he : a.eval (.tmp s) = .pointer (some ⟨b, f, none⟩) := by simp [Act.eval, hs]
  unfold Oper.wp execOp
  simp only [ho, he, hd]
  go_simp
  exact hK w (Mv.refl _ _)
theorem lk_loadR {s b f : Nat} {v : Value} (hd : o.dst = some d) (ho : o.op = .load 76 (.tmp s)) (hs : a.tmps[s]? = some (.pointer (some ⟨b, f, none⟩))) (h0 : w.cell? ⟨b, f, none⟩ = some v) (hK : ∀ w', Nu w w' → K ⟨a.tmps.setIfInBounds d v, a.defers⟩ w') : Oper.wp Try.prog o a w K Q := by
  have he : a.eval (.tmp s) = .pointer (some ⟨b, f, none⟩) := by simp [Act.eval, hs]
  unfold Oper.wp execOp
  simp only [ho, he, hd]
  go_simp
  exact hK w (Mv.refl _ _)
theorem lk_loadS {s b f : Nat} {v : Value} (hd : o.dst = some d) (ho : o.op = .load 9 (.tmp s)) (hs : a.tmps[s]? = some (.pointer (some ⟨b, f, none⟩))) (h0 : w.cell? ⟨b, f, none⟩ = some v) (hK : ∀ w', Nu w w' → K ⟨a.tmps.setIfInBounds d v, a.defers⟩ w') : Oper.wp Try.prog o a w K Q := by
  have he : a.eval (.tmp s) = .pointer (some ⟨b, f, none⟩) := by simp [Act.eval, hs]
  unfold Oper.wp execOp
  simp only [ho, he, hd]
  go_simp
  exact hK w (Mv.refl _ _)
theorem lk_fieldG0 {s b : Nat} (hd : o.dst = some d) (ho : o.op = .fieldAddr 78 (.tmp s) 0) (hs : a.tmps[s]? = some (.pointer (some ⟨b, 0, none⟩))) (hK : ∀ w', Nu w w' → K ⟨a.tmps.setIfInBounds d (.pointer (some ⟨b, 0, none⟩)), a.defers⟩ w') : Oper.wp Try.prog o a w K Q := by
  have he : a.eval (.tmp s) = .pointer (some ⟨b, 0, none⟩) := by simp [Act.eval, hs]
  unfold Oper.wp execOp
  simp only [ho, he, hd]
  go_simp
  exact hK w (Mv.refl _ _)
theorem lk_ext0 {s : Nat} {v u : Value} (hd : o.dst = some d) (ho : o.op = .extract (.tmp s) 0) (hs : a.tmps[s]? = some (.tuple #[v, u])) (hK : ∀ w', Nu w w' → K ⟨a.tmps.setIfInBounds d v, a.defers⟩ w') : Oper.wp Try.prog o a w K Q := by
  have he : a.eval (.tmp s) = .tuple #[v, u] := by simp [Act.eval, hs]
  unfold Oper.wp execOp
  simp only [ho, he, hd]
  go_simp
  exact hK w (Mv.refl _ _)
theorem lk_ext1 {s : Nat} {v u : Value} (hd : o.dst = some d) (ho : o.op = .extract (.tmp s) 1) (hs : a.tmps[s]? = some (.tuple #[v, u])) (hK : ∀ w', Nu w w' → K ⟨a.tmps.setIfInBounds d u, a.defers⟩ w') : Oper.wp Try.prog o a w K Q := by
  have he : a.eval (.tmp s) = .tuple #[v, u] := by simp [Act.eval, hs]
  unfold Oper.wp execOp
  simp only [ho, he, hd]
  go_simp
  exact hK w (Mv.refl _ _)
theorem lk_nums {s r B cap : Nat} {ao : Option Addr} {bs : List Nat} {st : ByteArray} (hd : o.dst = some d) (ho : o.op = .call { callee := .value (.func 58), args := #[.tmp s, .tmp r], argTypes := #[76, 9] }) (hs : a.tmps[s]? = some (.slice ao bs.length cap)) (hr : a.tmps[r]? = some (.string st)) (hx : IntsAt w B ao (ints bs)) (hb : ∀ n ∈ bs, n ≤ 20000) (hl : bs.length ≤ 1000) (hst : Short st)
    (hK : ∀ w' v, NumOut w st bs (.returned v) w' → K ⟨a.tmps.setIfInBounds d v, a.defers⟩ w') : Oper.wp Try.prog o a w K Q := by
  have he : a.eval (.tmp s) = .slice ao bs.length cap := by simp [Act.eval, hs]
  have he' : a.eval (.tmp r) = .string st := by simp [Act.eval, hr]
  unfold Oper.wp execOp
  simp only [ho, hd]
  go_simp
  refine Calls.mono (numbers_any w B ao cap bs hx hb hl st hst) ?_
  rintro e w' ⟨hn, hc⟩
  rcases hc with ⟨h1, rfl⟩ | ⟨l, ao', cap', h1, rfl, h2⟩
  · exact hK w' _ ⟨hn, .inl ⟨h1, rfl⟩⟩
  · exact hK w' _ ⟨hn, .inr ⟨l, ao', cap', h1, rfl, h2⟩⟩
theorem lk_gmove {s r q k b f : Nat} {gv : Value} {x : AX} (hd : o.dst = some d) (ho : o.op = .call { callee := .value (.func 60), args := #[.tmp s, .tmp r, .tmp q], argTypes := #[54, 3, 72] }) (hs : a.tmps[s]? = some gv) (hr : a.tmps[r]? = some (.int .i64 (k : Int))) (hq : a.tmps[q]? = some (.pointer (some ⟨b, f, none⟩)))
    (hat : AXAt w b f x) (h1 : IntsAt w w.heap.size x.ra x.a.reads) (h2 : IntsAt w w.heap.size x.wa x.a.writes) (ht : x.a.bad = 0 → 0 ≤ x.a.to ∧ x.a.to < 20000)
    (hK : ∀ w' (y : X), Nu w w' → y.m = movOf k x.a → XOwn w' w.heap.size y → K ⟨a.tmps.setIfInBounds d y.val, a.defers⟩ w') : Oper.wp Try.prog o a w K Q := by
  have he : a.eval (.tmp s) = gv := by simp [Act.eval, hs]
  have he' : a.eval (.tmp r) = .int .i64 (k : Int) := by simp [Act.eval, hr]
  have he2 : a.eval (.tmp q) = .pointer (some ⟨b, f, none⟩) := by simp [Act.eval, hq]
  unfold Oper.wp execOp
  simp only [ho, hd]
  go_simp
  refine Calls.mono (move_any w gv k b f x hat h1 h2 ht) ?_
  rintro e w' ⟨hn, y, rfl, hm, ho⟩
  exact hK w' y hn hm ho

theorem lk_yield {n l s r : Nat} {z : X} {R : Ending → World → Prop} (hd : o.dst = some d) (ho : o.op = .call { callee := .value (.tmp s), args := #[.tmp r], argTypes := #[69] }) (hs : a.tmps[s]? = some (.func (.yield l) #[] #[])) (hr : a.tmps[r]? = some z.val) (hY : YieldAt Fence.wide (n - 1) Try.prog l z.enc w R)
    (hR : ∀ e W3, R e W3 → ∃ b, e = .returned (.bool b) ∧ K ⟨a.tmps.setIfInBounds d (.bool b), a.defers⟩ W3) : Oper.wpIn Fence.wide n Try.prog o a w K Q := by
  obtain ⟨fn, tmps, assign, body, hy, hRo⟩ := hY
  have he : a.tmps[s]?.getD undef = .func (.yield l) #[] #[] := by rw [hs]; rfl
  have he' : a.tmps[r]?.getD undef = z.val := by rw [hr]; rfl
  refine ⟨fun _ _ => trivial, ?_⟩
  show o.uponIn Fence.wide n Try.prog a K Q ((execOp a.eval o).run Try.prog w)
  have hrun : (execOp a.eval o).run Try.prog w = .ok (.round l fn tmps assign body) w := by
    unfold execOp
    simp [ho, go_sem, Act.eval, he, he']
    exact hy
  rw [hrun, Oper.uponIn_round]
  refine ⟨fun h => by simp [Fence.wide] at h, hRo.mono ?_⟩
  intro e W3 h
  obtain ⟨b, rfl, hk⟩ := hR e W3 h
  show K (a.put o.dst (.bool b)) W3
  rw [hd]
  exact hk

end

/-- What is found of a state: its node's number. -/
def NoIs (k : Option Nat) (H : Nat) (w : World) (v : Value) : Prop := (k = none ∧ v = .slice none 0 0) ∨ ∃ j ao cap, k = some j ∧ v = .slice ao 1 cap ∧ OwnI w H ao cap (ints [j])
theorem NoIs.nu {k : Option Nat} {H : Nat} {w w' : World} {v : Value} (h : NoIs k H w v) (hn : Nu w w') : NoIs k H w' v := by
  rcases h with h | ⟨j, ao, cap, h1, h2, h3⟩
  · exact .inl h
  · exact .inr ⟨j, ao, cap, h1, h2, h3.mv hn (fun _ _ _ => id) (Nat.le_refl _)⟩

def R0N (gb rb : Nat) (st : ByteArray) (k : Option Nat) (H : Nat) : Nat → World → Value → Prop
  | 0, _, v => v = .pointer (some ⟨gb, 0, none⟩)
  | 1, _, v => v = .pointer (some ⟨gb, 0, none⟩)
  | 2, _, v => v = .pointer (some ⟨gb, 0, none⟩)
  | 3, _, v => v = .slice (some ⟨rb, 0, none⟩) 1 1
  | 4, _, v => v = .string st
  | 5, w, v => ∃ u, v = .tuple #[u, .bool k.isSome] ∧ NoIs k H w u
  | 6, w, v => ∃ u, v = .tuple #[u, .bool k.isSome] ∧ NoIs k H w u
  | 7, w, v => NoIs k H w v
  | 8, _, v => v = .bool k.isSome
  | 9, w, v => NoIs k H w v
  | 10, _, v => v = .bool k.isSome
  | _, _, v => v = undef
theorem R0N.nu {gb rb : Nat} {st : ByteArray} {k : Option Nat} {H : Nat} : ∀ (i : Nat) (w w' : World) (v : Value), Nu w w' → R0N gb rb st k H i w v → R0N gb rb st k H i w' v := by
  intro i w w' v hn h
  unfold R0N at h ⊢
  split <;> simp only at h <;> first
    | exact h
    | exact NoIs.nu h hn
    | (obtain ⟨u, h1, h2⟩ := h; exact ⟨u, h1, h2.nu hn⟩)

theorem next_none {ns : List Node} {st : ByteArray} (hn : nodeNo ns.length st = none) : (graphSem ns).next st = [] := by simp [graphSem, hn]
theorem next_some {ns : List Node} {nxs : List NX} {st : ByteArray} {k : Nat} (he : nxs.map NX.nd = ns) (hn : nodeNo ns.length st = some k) (hk : k < nxs.length) : (graphSem ns).next st = movsOf nxs[k].nd.arcs := by
  have : ns[k]? = some nxs[k].nd := by rw [← he, List.getElem?_map, List.getElem?_eq_getElem hk]; rfl
  simp [graphSem, hn, this]
theorem movs_get {l : List Arc} {i : Nat} (h : i < l.length) : (movsOf l)[i]? = some (movOf i l[i]) := by
  unfold movsOf
  rw [List.getElem?_zipWith]
  simp [h]
theorem map_get {xs : List AX} {arcs : List Arc} (h : xs.map AX.a = arcs) {i : Nat} (hi : i < xs.length) (hi' : i < arcs.length) : arcs[i] = xs[i].a := by subst h; simp
theorem movs_len (l : List Arc) : (movsOf l).length = l.length := by simp [movsOf]

def R6N (l gb ab off n c i H : Nat) (x : Arc) : Nat → World → Value → Prop
  | 0, _, v => v = .func (.yield l) #[] #[]
  | 1, _, v => v = .pointer (some ⟨gb, 0, none⟩)
  | 2, _, v => v = .int .i64 (i : Int)
  | 3, _, v => v = .slice (some ⟨ab, off, none⟩) n c
  | 4, _, v => v = .int .i64 (i : Int)
  | 5, _, v => v = .pointer (some ⟨ab, off + i * 6, none⟩)
  | 6, w, v => ∃ y : X, v = y.val ∧ y.m = movOf i x ∧ XOwn w H y
  | _, _, v => v = undef
theorem R6N.nu {l gb ab off n c i' H : Nat} {x : Arc} : ∀ (i : Nat) (w w' : World) (v : Value), Nu w w' → R6N l gb ab off n c i' H x i w v → R6N l gb ab off n c i' H x i w' v := by
  intro i w w' v hn h
  unfold R6N at h ⊢
  split <;> simp only at h <;> first
    | exact h
    | (obtain ⟨y, h1, h2, h3⟩ := h; exact ⟨y, h1, h2, h3.mv hn (fun _ _ => id) (Nat.le_refl _)⟩)

theorem frame2 {ops : Array Oper} {a A0 : Act} {p q ip iq : Nat} {v u : Value} {op oq : Oper} (h : ∀ j : Nat, (ops.toList.all fun o => o.dst != some j) = true → a.tmps[j]? = A0.tmps[j]?) (hp : ops[ip]? = some op) (hq : ops[iq]? = some oq) (hdp : op.dst = some p) (hdq : oq.dst = some q) :
    ∀ j : Nat, (∀ (i : Nat) (o : Oper), ops[i]? = some o → o.dst ≠ some j) → (⟨(a.tmps.setIfInBounds p v).setIfInBounds q u, a.defers⟩ : Act).tmps[j]? = A0.tmps[j]? := by
  intro j hj
  show ((a.tmps.setIfInBounds p v).setIfInBounds q u)[j]? = _
  rw [Array.getElem?_setIfInBounds_ne (fun e => hj iq oq hq (by rw [hdq, e])), Array.getElem?_setIfInBounds_ne (fun e => hj ip op hp (by rw [hdp, e]))]
  refine h j ?_
  rw [List.all_eq_true]
  intro o ho
  obtain ⟨i, hi, rfl⟩ := List.mem_iff_getElem.1 ho
  rw [bne_iff_ne]
  exact fun e => hj i _ (by rw [← Array.getElem?_toList, List.getElem?_eq_getElem hi]) e

/-- What ranging over moves leaves. -/
def SeqPost (J : List X → (Nat → Prop) → World → Prop) (Jx : List X → World → Prop) (ms : List Mov) (e : Ending) (W' : World) : Prop := (∃ v, e = .returned v) ∧ ((∃ xs O, xs.map X.m = ms ∧ J xs O W') ∨ (∃ pre, Jx pre W'))

set_option maxHeartbeats 8000000 in
set_option maxRecDepth 40000 in
theorem seq_any (n : Nat) (hn : 1 ≤ n) (F : Nat → Prop) (gb g nc rb b1 b2 : Nat) (ns : List Node) (nxs : List NX) (st : ByteArray) (w : World) (h : GraphIs w F gb ns g nc rb nxs) (hb1 : w.heap[b1]? = some (.cells #[.pointer (some ⟨gb, 0, none⟩)] 54 (0, 0))) (hb2 : w.heap[b2]? = some (.cells #[.string st] 9 (0, 0))) (hm : mayN ns = true) (hst : Short st) (hFlt : ∀ b, F b → b < w.heap.size) :
    SeqN n 59 #[.pointer (some ⟨b1, 0, none⟩), .pointer (some ⟨b2, 0, none⟩)] (fun b => F b ∨ b = b1 ∨ b = b2) ((graphSem ns).next st) w := fun l J Jx W O₀ hK _ hJ hJx _ hOF hY h0 => by
  have hkF : KeepF F w W := ⟨hK.1, fun x hx => hK.2 x (.inl hx)⟩
  have HG : Hid (GraphIs W F gb ns g nc rb nxs) := h.keep hkF
  have HB1 : Hid (W.heap[b1]? = some (.cells #[.pointer (some ⟨gb, 0, none⟩)] 54 (0, 0))) := (hK.2 b1 (.inr (.inl rfl))).trans hb1
  have HB2 : Hid (W.heap[b2]? = some (.cells #[.string st] 9 (0, 0))) := (hK.2 b2 (.inr (.inr rfl))).trans hb2
  have HST := hid hst
  have HMY := hid hm
  have HJ := hid hJ
  have HJX := hid hJx
  have HOF := hid hOF
  have HY := hid hY
  have H0 := hid h0
  have HNN := hid hn
  have HLT0 : Hid (∀ b, (F b ∨ b = b1 ∨ b = b2) → b < W.heap.size) := fun b hb => by
    rcases hb with hb | rfl | rfl
    · exact Nat.lt_of_lt_of_le (hFlt b hb) hK.1
    · exact lt_of_block HB1.out
    · exact lt_of_block HB2.out
  have hl1 : (ns.length : Int) ≤ 20000 := by have := HG.out.len; omega
  clear hkF h hb1 hb2 hst hm hJ hJx hOF hY h0 hK hn hFlt
  refine callsIn_wide.2 ?_
  show Calls _ _ _ _ (SeqPost J Jx ((graphSem ns).next st))
  simp only [List.append_toArray, List.cons_append, List.nil_append]
  go_enter Try.func59, Try.ntmps59
  obtain ⟨kk, hkk⟩ : ∃ kk, nodeNo ns.length st = kk := ⟨_, rfl⟩
  have HKK := hid hkk
  clear hkk
  go_upto_region 0 with fail
  rename_i KC hKC
  refine wp_lookR (R0N gb rb st kk W.heap.size) R0N.nu (by kernel_rfl) (by kernel_rfl) ?step ?last
  case step =>
    intro i o d a w' ho hd hn hfr had K hK
    have hi : i < 11 := (Array.getElem?_eq_some_iff.1 ho).1
    have f1 := hfr 1 (by kernel_rfl)
    have f2 := hfr 2 (by kernel_rfl)
    have c1 := cell_blk (hn.heap HB1.out id) 0
    have c2 := cell_blk (hn.heap HB2.out id) 0
    have c3 := cell_blk (hn.heap HG.out.blk id) 0
    have : i = 0 ∨ i = 1 ∨ i = 2 ∨ i = 3 ∨ i = 4 ∨ i = 5 ∨ i = 6 ∨ i = 7 ∨ i = 8 ∨ i = 9 ∨ i = 10 := by omega
    rcases this with rfl | rfl | rfl | rfl | rfl | rfl | rfl | rfl | rfl | rfl | rfl <;> cases ho <;> cases hd
    · exact ite_yes (want_none rfl) (lk_loadG rfl rfl f1 c1 (fun w' hm => hK w' _ hm rfl))
    · obtain ⟨⟨_, h0, rfl⟩, _⟩ := had; exact ite_yes (want_none rfl) (lk_nilP rfl rfl h0 (fun w' hm => hK w' _ hm rfl))
    · obtain ⟨⟨_, h0, rfl⟩, _⟩ := had; exact ite_yes (want_none rfl) (lk_fieldG0 rfl rfl h0 (fun w' hm => hK w' _ hm rfl))
    · obtain ⟨⟨_, h0, rfl⟩, _⟩ := had; exact ite_yes (want_none rfl) (lk_loadR rfl rfl h0 c3 (fun w' hm => hK w' _ hm rfl))
    · exact ite_yes (want_none rfl) (lk_loadS rfl rfl f2 c2 (fun w' hm => hK w' _ hm rfl))
    · obtain ⟨⟨_, h0, rfl⟩, ⟨_, h1, rfl⟩, _⟩ := had
      refine ite_yes (want_none rfl) (lk_nums (bs := [ns.length]) rfl rfl h0 h1 (ints_one (hn.heap HG.out.rblk id)) (by intro m hm; rw [List.mem_singleton.1 hm]; exact HG.out.len.2) (show 1 ≤ 1000 by decide) HST.out (fun w' v ho => hK w' _ ho.1 ?_))
      obtain ⟨hnw, hc⟩ := ho
      rw [nums_one _ HG.out.len.2, HKK.out] at hc
      rcases hc with ⟨hno, he⟩ | ⟨lst, ao', cap', hno, he, hown⟩
      · have hk0 : kk = none := by simpa using hno
        cases he
        exact ⟨_, by rw [hk0]; rfl, .inl ⟨hk0, rfl⟩⟩
      · obtain ⟨j, hj, rfl⟩ := Option.map_eq_some_iff.1 hno
        cases he
        exact ⟨_, by rw [hj]; rfl, .inr ⟨j, ao', cap', hj, rfl, hown.mv (Mv.refl (fun _ => False) _) (fun _ _ _ => id) hn.size⟩⟩
    · obtain ⟨⟨_, h0, u, rfl, hu⟩, _⟩ := had; exact ite_yes (want_none rfl) (lk_move rfl rfl h0 (fun w' hm => hK w' _ hm ⟨u, rfl, hu.nu hm⟩))
    · obtain ⟨⟨_, h0, u, rfl, hu⟩, _⟩ := had; exact ite_yes (want_none rfl) (lk_ext0 rfl rfl h0 (fun w' hm => hK w' _ hm (hu.nu hm)))
    · obtain ⟨⟨_, h0, u, rfl, hu⟩, _⟩ := had; exact ite_yes (want_none rfl) (lk_ext1 rfl rfl h0 (fun w' hm => hK w' _ hm rfl))
    · obtain ⟨⟨_, h0, hu⟩, _⟩ := had; exact ite_yes (want_none rfl) (lk_assign rfl rfl h0 (fun w' hm => hK w' _ hm (NoIs.nu hu hm)))
    · obtain ⟨⟨_, h0, rfl⟩, _⟩ := had; exact ite_yes (want_none rfl) (lk_assign rfl rfl h0 (fun w' hm => hK w' _ hm rfl))
  case last =>
    intro a w1 hn1 hdf hsz hfr htv
    obtain ⟨v5, t5, _⟩ := htv 5 _ 14 rfl rfl
    obtain ⟨v6, t6, _⟩ := htv 6 _ 8 rfl rfl
    obtain ⟨v7, t7, _⟩ := htv 7 _ 15 rfl rfl
    obtain ⟨v9, t9, hv9⟩ := htv 9 _ 4 rfl rfl
    have htm := fill_eqN (vals := fun i => ([.pointer (some ⟨gb, 0, none⟩), .pointer (some ⟨gb, 0, none⟩), .pointer (some ⟨gb, 0, none⟩), .slice (some ⟨rb, 0, none⟩) 1 1, .string st, v5, v6, v7, .bool kk.isSome, v9, .bool kk.isSome] : List Value).getD i undef) (by kernel_rfl) hfr (fun i o d hi hd => by
      have hi' : i < 11 := (Array.getElem?_eq_some_iff.1 hi).1
      obtain ⟨v, h, hv⟩ := htv i o d hi hd
      have : i = 0 ∨ i = 1 ∨ i = 2 ∨ i = 3 ∨ i = 4 ∨ i = 5 ∨ i = 6 ∨ i = 7 ∨ i = 8 ∨ i = 9 ∨ i = 10 := by omega
      rcases this with rfl | rfl | rfl | rfl | rfl | rfl | rfl | rfl | rfl | rfl | rfl <;> cases hi <;> cases hd <;> first | exact t5 | exact t6 | exact t7 | exact t9 | exact h.trans (congrArg some hv))
    refine hKC _ _ ?_
    have HN1 := hid hn1
    have HV9 : Hid (NoIs kk W.heap.size w1 v9) := hv9
    rw [act_eq' htm hdf]
    clear htm hdf hsz hfr htv t5 t6 t7 t9 hn1 hKC hv9
    simp only [fill, List.getD_cons_succ, List.getD_cons_zero, List.setIfInBounds_toArray, List.set_cons_succ, List.set_cons_zero]
    cases kk with
    | none =>
      have HE := hid (next_none HKK.out)
      simp only [Option.isSome_none]
      go_wp2
      refine bodyPost_ret (results_none rfl _ _ _) rfl ?_
      exact ⟨⟨_, rfl⟩, .inl ⟨[], O₀, by rw [HE.out]; rfl, HJ.out _ _ _ _ H0.out HN1.out⟩⟩
    | some k =>
      obtain ⟨ao, cap, rfl, hown⟩ : ∃ ao cap, v9 = .slice ao 1 cap ∧ OwnI w1 W.heap.size ao cap (ints [k]) := by
        rcases HV9.out with ⟨h, _⟩ | ⟨j, ao, cap, hj, h1, h2⟩
        · cases h
        · cases hj
          exact ⟨ao, cap, h1, h2⟩
      obtain ⟨b3, off3, rfl, c3⟩ : ∃ b3 off3, ao = some ⟨b3, off3, none⟩ ∧ w1.cell? ⟨b3, off3, none⟩ = some (.int .i64 (k : Int)) := by
        rcases hown.at.row with h0 | ⟨b3, off3, h1, _, hit⟩
        · simp [ints] at h0
        · exact ⟨b3, off3, h1, hit 0 (by simp [ints])⟩
      have hnl : nxs.length = ns.length := by rw [← HG.out.eq, List.length_map]
      have hkl : k < nxs.length := by rw [hnl]; exact (nodeNo_some HKK.out).1
      have hkn : (k : Int) < (ns.length : Int) := by have := (nodeNo_some HKK.out).1; omega
      have HE := hid (next_some HG.out.eq HKK.out hkl)
      have hat := cell_mv HN1.out (HG.out.nat k hkl).c0 id
      have HXZ := hid (HG.out.nz _ (List.getElem_mem hkl))
      have c1 := cell_blk (HN1.out.heap HB1.out id) 0
      have c2 := cell_blk (HN1.out.heap HG.out.blk id) 1
      simp only [List.size_toArray, List.length_cons, List.length_nil, Nat.reduceAdd, Nat.lt_add_one, Nat.reduceLT, getElem?_pos, List.getElem_toArray, List.getElem_cons_zero, List.getElem_cons_succ, Nat.zero_lt_succ] at c1 c2
      have HTO : Hid (∀ y ∈ nxs[k].xs, y.a.bad = 0 → 0 ≤ y.a.to ∧ y.a.to < 20000) := by
        intro y hy hb
        have h1 := HMY.out
        simp only [mayN, Bool.and_eq_true, List.all_eq_true, decide_eq_true_eq] at h1
        have h2 := h1.2 nxs[k].nd (by rw [← HG.out.eq]; exact List.mem_map.2 ⟨_, List.getElem_mem hkl, rfl⟩) y.a (by rw [← HXZ.out.eq]; exact List.mem_map.2 ⟨y, hy, rfl⟩)
        simp only [arcB, Bool.and_eq_true, decide_eq_true_eq] at h2
        obtain ⟨⟨⟨_, h3⟩, h4⟩, _⟩ := h2
        exact ⟨h3, by omega⟩
      have HLN : Hid (nxs[k].xs.length = nxs[k].nd.arcs.length) := by
        have := congrArg List.length HXZ.out.eq
        rwa [List.length_map] at this
      generalize nxs[k] = x at *
      have HAR := hid HXZ.out.ar
      have HAE := hid HXZ.out.eq
      have hxl := HXZ.out.ar.lim
      clear hown hnl hkl HV9 HXZ
      generalize x.vo = vo at *
      generalize x.vc = vc at *
      generalize x.xs = xs at *
      generalize x.nd.arcs = arcs at *
      simp only [Option.isSome_some]
      go_upto_region 2 with fail
      go_quiet (fail)
      go_upto_region 3 with fail
      clear c1 c2 c3 hat hkn
      go_wp2
      go_loopw [31] (fun iv wr => ∃ (pre : List X) (O : Nat → Prop), pre.length ≤ xs.length ∧ iv = .int .i64 (pre.length : Int) ∧ Hid (pre.map X.m = (movsOf arcs).take pre.length) ∧ Hid (J pre O wr) ∧ Hid (KeepF (fun b => F b ∨ b = b1 ∨ b = b2) W wr)) (fun iv _ => xs.length - (intOf iv).toNat)
      case atStart => exact ⟨[], O₀, Nat.zero_le _, rfl, (rfl : [] = _), HJ.out _ _ _ _ H0.out (mv0 HN1.out (nu_drewN' _ _)), (mv0 HN1.out (nu_drewN' _ _)).keep (fun b hb => ⟨HLT0.out b hb, id⟩)⟩
      case round =>
        obtain ⟨pre, O, hpl, rfl, HPM, HJP, HKP⟩ := hrel
        rcases Nat.lt_or_ge pre.length xs.length with hlt | hge
        · have hlt' : (pre.length : Int) < (xs.length : Int) := by omega
          have hkF : KeepF F W wr := ⟨HKP.out.1, fun b hb => HKP.out.2 b (.inl hb)⟩
          have har := HAR.out.keep hkF
          rcases har.row with h0 | ⟨ab, off, rfl, hab, hit⟩
          · omega
          have HAT := hid (hit pre.length hlt)
          have hax := har.ax _ (List.getElem_mem hlt)
          have HRW : Hid (IntsAt wr wr.heap.size xs[pre.length].ra xs[pre.length].a.reads ∧ IntsAt wr wr.heap.size xs[pre.length].wa xs[pre.length].a.writes) := by
            have hZ : ∀ b, F b → b < wr.heap.size := fun b hb => Nat.lt_of_lt_of_le (HLT0.out b (.inl hb)) HKP.out.1
            exact ⟨hax.r.at hZ, hax.w.at hZ⟩
          have HT2 := hid (HTO.out _ (List.getElem_mem hlt))
          have HMS : Hid ((movsOf arcs)[pre.length]? = some (movOf pre.length xs[pre.length].a)) := by
            have hl : pre.length < arcs.length := by rw [← HLN.out]; exact hlt
            rw [← map_get HAE.out hlt hl]
            exact movs_get hl
          have c1 := cell_blk ((HKP.out.2 b1 (.inr (.inl rfl))).trans HB1.out) 0
          simp only [List.size_toArray, List.length_cons, List.length_nil, Nat.reduceAdd, Nat.lt_add_one, Nat.reduceLT, getElem?_pos, List.getElem_toArray, List.getElem_cons_zero, List.getElem_cons_succ, Nat.zero_lt_succ] at c1
          generalize xs[pre.length] = y at *
          have HLT := hid hlt
          clear har hit hab hax hlt hkF
          go_upto_region 6 with fail
          rename_i KC2 hKC2
          refine (wpIn_wide (n := n)).1 ?_
          refine wpIn_yield 7 41 42 _ _ (R6N l gb ab off xs.length vc pre.length wr.heap.size y.a) (fun b a w' => KC2 ⟨(a.tmps.setIfInBounds 41 (.bool b)).setIfInBounds 42 (.bool (!b)), a.defers⟩ w') R6N.nu (by kernel_rfl) (by kernel_rfl) rfl ?hcl rfl rfl rfl ?hnot ?step ?yield ?last
          case hnot =>
            intro a b w' he
            have he' : a.tmps[41]?.getD undef = .bool b := by simpa [Act.eval] using he
            unfold execOp
            simp [go_sem, he']
          case hcl =>
            intro l' hcl hy i hi
            have h0 := hy ⟨0, .data⟩ (by simp) rfl
            have h6 := hy ⟨6, .data⟩ (by simp) rfl
            have h1 := hcl 6 _ rfl h6 ⟨1, .data⟩ (by simp) rfl
            have h2 := hcl 6 _ rfl h6 ⟨2, .data⟩ (by simp) rfl
            have h5 := hcl 6 _ rfl h6 ⟨5, .data⟩ (by simp) rfl
            have h3 := hcl 5 _ rfl h5 ⟨3, .data⟩ (by simp) rfl
            have h4 := hcl 5 _ rfl h5 ⟨4, .data⟩ (by simp) rfl
            have : i = 0 ∨ i = 1 ∨ i = 2 ∨ i = 3 ∨ i = 4 ∨ i = 5 ∨ i = 6 := by omega
            rcases this with rfl | rfl | rfl | rfl | rfl | rfl | rfl <;> assumption
          case last => exact fun b a w' _ h => h
          case step =>
            intro i o d a w' hi7 ho hd hnw hfr had K hK
            have f0 := hfr 0 (by kernel_rfl)
            have f1 := hfr 1 (by kernel_rfl)
            have f6 := hfr 6 (by kernel_rfl)
            have f7 := hfr 7 (by kernel_rfl)
            have c1' := cell_mv hnw c1 id
            have : i = 0 ∨ i = 1 ∨ i = 2 ∨ i = 3 ∨ i = 4 ∨ i = 5 ∨ i = 6 := by omega
            rcases this with rfl | rfl | rfl | rfl | rfl | rfl | rfl <;> cases ho <;> cases hd
            · exact wpIn_of_op (lk_move rfl rfl f0 (fun w' hm => hK w' _ hm rfl))
            · exact wpIn_of_op (lk_loadG rfl rfl f1 c1' (fun w' hm => hK w' _ hm rfl))
            · exact wpIn_of_op (lk_move rfl rfl f7 (fun w' hm => hK w' _ hm rfl))
            · exact wpIn_of_op (lk_move rfl rfl f6 (fun w' hm => hK w' _ hm rfl))
            · exact wpIn_of_op (lk_move rfl rfl f7 (fun w' hm => hK w' _ hm rfl))
            · obtain ⟨⟨_, h0, rfl⟩, ⟨_, h1, rfl⟩, _⟩ := had; exact wpIn_of_op (lk_idxAo HLT.out rfl rfl h0 h1 (fun w' hm => hK w' _ hm rfl))
            · obtain ⟨⟨_, h0, rfl⟩, ⟨_, h1, rfl⟩, ⟨_, h2, rfl⟩, _⟩ := had
              exact wpIn_of_op (lk_gmove rfl rfl h0 h1 h2 (HAT.out.mv hnw id) (HRW.out.1.below hnw.nu_below hnw.size) (HRW.out.2.below hnw.nu_below hnw.size) HT2.out (fun w' z hm hz ho => hK w' _ hm ⟨z, rfl, hz, ho.mv (Mv.refl (fun _ => False) _) (fun _ _ => id) hnw.size⟩))
          case yield =>
            intro a w' hnw hdf hsz hfr htv
            obtain ⟨_, t0, rfl⟩ := htv 0 _ 34 (by decide) rfl rfl
            obtain ⟨_, t1, rfl⟩ := htv 1 _ 35 (by decide) rfl rfl
            obtain ⟨_, t2, rfl⟩ := htv 2 _ 36 (by decide) rfl rfl
            obtain ⟨_, t3, rfl⟩ := htv 3 _ 37 (by decide) rfl rfl
            obtain ⟨_, t4, rfl⟩ := htv 4 _ 38 (by decide) rfl rfl
            obtain ⟨_, t5, rfl⟩ := htv 5 _ 39 (by decide) rfl rfl
            obtain ⟨_, t6, z, rfl, hzm, hzo⟩ := htv 6 _ 40 (by decide) rfl rfl
            have HZM := hid hzm
            have hzb : ∀ b, z.blk b → wr.heap.size ≤ b := fun b hb => (hzo.ge hb).1
            have hOw : ∀ b, O b → b < wr.heap.size ∧ ¬ (F b ∨ b = b1 ∨ b = b2) := HOF.out _ _ _ HJP.out
            refine lk_yield (z := z) rfl rfl t0 t6 (HY.out pre z w' O (HJ.out _ _ _ _ HJP.out hnw) (Nat.le_trans HKP.out.1 hnw.size) (by rw [HE.out, hzm]; exact HMS.out) (hzo.mv (Mv.refl (fun _ => False) _) (fun _ _ => id) HKP.out.1) (fun b hb ho => by have := hzb b hb; have := (hOw b ho).1; omega)) ?_
            intro e W3 hE
            have htm : ∀ bb : Bool, (⟨(a.tmps.setIfInBounds 41 (.bool bb)).setIfInBounds 42 (.bool (!bb)), a.defers⟩ : Act).tmps = _ := fun bb => fill_eqN (vals := fun i => ([.func (.yield l) #[] #[], .pointer (some ⟨gb, 0, none⟩), .int .i64 (pre.length : Int), .slice (some ⟨ab, off, none⟩) xs.length vc, .int .i64 (pre.length : Int), .pointer (some ⟨ab, off + pre.length * 6, none⟩), z.val, .bool bb, .bool (!bb)] : List Value).getD i undef) (by kernel_rfl) (frame2 (ip := 7) (iq := 8) hfr rfl rfl rfl rfl) (fun i o d hi hd => by
              have hi' : i < 9 := (Array.getElem?_eq_some_iff.1 hi).1
              have : i = 0 ∨ i = 1 ∨ i = 2 ∨ i = 3 ∨ i = 4 ∨ i = 5 ∨ i = 6 ∨ i = 7 ∨ i = 8 := by omega
              rcases this with rfl | rfl | rfl | rfl | rfl | rfl | rfl | rfl | rfl <;> cases hi <;> cases hd
              · rw [Array.getElem?_setIfInBounds_ne (by decide), Array.getElem?_setIfInBounds_ne (by decide)]; exact t0
              · rw [Array.getElem?_setIfInBounds_ne (by decide), Array.getElem?_setIfInBounds_ne (by decide)]; exact t1
              · rw [Array.getElem?_setIfInBounds_ne (by decide), Array.getElem?_setIfInBounds_ne (by decide)]; exact t2
              · rw [Array.getElem?_setIfInBounds_ne (by decide), Array.getElem?_setIfInBounds_ne (by decide)]; exact t3
              · rw [Array.getElem?_setIfInBounds_ne (by decide), Array.getElem?_setIfInBounds_ne (by decide)]; exact t4
              · rw [Array.getElem?_setIfInBounds_ne (by decide), Array.getElem?_setIfInBounds_ne (by decide)]; exact t5
              · rw [Array.getElem?_setIfInBounds_ne (by decide), Array.getElem?_setIfInBounds_ne (by decide)]; exact t6
              · rw [Array.getElem?_setIfInBounds_ne (by decide), Array.getElem?_setIfInBounds_self]; simp [hsz]
              · rw [Array.getElem?_setIfInBounds_self]; simp [hsz])
            have HW3 : Hid (KeepF (fun b => F b ∨ b = b1 ∨ b = b2) W w') := HKP.out.trans (hnw.keep (fun b hb => ⟨Nat.lt_of_lt_of_le (HLT0.out b hb) HKP.out.1, id⟩))
            have HZB := hid hzb
            have HOW := hid hOw
            rcases hE with ⟨rfl, O', hJ3, hO', hmv⟩ | ⟨rfl, hJx3, _⟩
            · have HJ3 := hid hJ3
              have HK3 : Hid (KeepF (fun b => F b ∨ b = b1 ∨ b = b2) W W3) := HW3.out.trans (hmv.keep (fun b hb => ⟨Nat.lt_of_lt_of_le (HLT0.out b hb) HW3.out.1, fun ho => by
                rcases ho with ho | ho
                · exact (hOw b ho).2 hb
                · have h1 := hzb b ho
                  have h2 := HLT0.out b hb
                  have h3 := HKP.out.1
                  omega⟩))
              refine ⟨true, rfl, true, rfl, hKC2 _ _ ?_⟩
              rw [act_eq' (htm true) hdf]
              clear htm htv hfr t0 t1 t2 t3 t4 t5 t6 hdf hsz hKC2 hJ3 hmv hO' hnw hzo hzm hzb hOw HKP
              simp only [fill, List.getD_cons_succ, List.getD_cons_zero, List.setIfInBounds_toArray, List.set_cons_succ, List.set_cons_zero]
              have hlen : (pre ++ [z]).length = pre.length + 1 := by simp
              have HP2 : Hid ((pre ++ [z]).map X.m = (movsOf arcs).take (pre ++ [z]).length) := by
                show _ = _
                rw [List.map_append, HPM.out, hlen, List.take_add_one, HMS.out]
                simp [HZM.out]
              go_wp2
              go_roundw
              case rel => exact ⟨pre ++ [z], O', by rw [hlen]; exact HLT.out, by rw [hlen]; go_num, HP2.out, HJ3.out, HK3.out⟩
              case measure => have := HLT.out; simp [intOf]; omega
            · have HJ3 := hid hJx3
              refine ⟨false, rfl, false, rfl, hKC2 _ _ ?_⟩
              rw [act_eq' (htm false) hdf]
              clear htm htv hfr t0 t1 t2 t3 t4 t5 t6 hdf hsz hKC2 hJx3 hnw hzo hzm hzb hOw HKP
              simp only [fill, List.getD_cons_succ, List.getD_cons_zero, List.setIfInBounds_toArray, List.set_cons_succ, List.set_cons_zero]
              go_wp2
              refine bodyPost_ret (results_none rfl _ _ _) rfl ?_
              exact ⟨⟨_, rfl⟩, .inr ⟨_, HJ3.out⟩⟩
        · have he : pre.length = xs.length := by omega
          have he' : ¬ (pre.length : Int) < (xs.length : Int) := by omega
          have HPE : Hid (pre.map X.m = (graphSem ns).next st) := by
            have := HPM.out
            rw [List.take_of_length_le (by rw [movs_len, he, HLN.out]; exact Nat.le_refl _)] at this
            show _ = _
            rw [this, HE.out]
          clear he hge
          go_wp2
          go_end0
          exact ⟨⟨_, rfl⟩, .inl ⟨pre, O, HPE.out, HJP.out⟩⟩

end Go.Proofs.Ytmlpndcelfdlhaa
/-
  A graph as a system: the program's Next and Of.
-/
set_option linter.unusedVariables false
set_option linter.unusedSimpArgs false
namespace Go.Proofs.Ytmlpndcelfdlhaa
open Go.RowKit

theorem enters_Begin : Enters 54 := fun args w => by
  unfold callFunc
  simp [go_sem, Try.func54]
  rfl

theorem leads_Begin (gb : Nat) : Leads 54 (.pointer (some ⟨gb, 0, none⟩)) "Begin" 54 (.pointer (some ⟨gb, 0, none⟩)) :=
  ⟨fun w => by kernel_rfl, enters_Begin, fun w => by kernel_rfl⟩

theorem enters_Next : Enters 56 := fun args w => by
  unfold callFunc
  simp [go_sem, Try.func56]
  rfl
theorem enters_Look : Enters 55 := fun args w => by
  unfold callFunc
  simp [go_sem, Try.func55]
  rfl
theorem enters_Next1 : Enters 59 := fun args w => by
  unfold callFunc
  simp [go_sem, Try.func59]
  rfl
theorem leads_Next (gb : Nat) : Leads 54 (.pointer (some ⟨gb, 0, none⟩)) "Next" 56 (.pointer (some ⟨gb, 0, none⟩)) :=
  ⟨fun w => by kernel_rfl, enters_Next, fun w => by kernel_rfl⟩
theorem leads_Look (gb : Nat) : Leads 54 (.pointer (some ⟨gb, 0, none⟩)) "Look" 55 (.pointer (some ⟨gb, 0, none⟩)) :=
  ⟨fun w => by kernel_rfl, enters_Look, fun w => by kernel_rfl⟩

set_option maxHeartbeats 1000000 in
theorem Next_any (w : World) (F : Nat → Prop) (gb g nc rb : Nat) (ns : List Node) (nxs : List NX) (h : GraphIs w F gb ns g nc rb nxs) (hm : mayN ns = true) (hF : ∀ b, F b → b < w.heap.size) (st : ByteArray) (hst : Short st) :
    Calls Try.prog 56 #[.pointer (some ⟨gb, 0, none⟩), .string st] w fun e w' => ∃ gf lb G, e = .returned (.func (.func gf) #[] lb) ∧ Nu w w' ∧ Enters gf ∧ (∀ b, G b → b < w'.heap.size ∧ (F b ∨ w.heap.size ≤ b)) ∧ ∀ n, 1 ≤ n → SeqN n gf lb G ((graphSem ns).next st) w' := by
  have HG := hid h
  have HM := hid hm
  have HF := hid hF
  have HST := hid hst
  clear h hm hF hst
  go_enter Try.func56, Try.ntmps56
  go_wp2
  go_ret
  have hn1 : Nu w (w.alloc (.cells #[.pointer (some ⟨gb, 0, none⟩)] 54)) := Mv.alloc _ _ _
  have hb1 := heap_alloc_new w (.cells #[.pointer (some ⟨gb, 0, none⟩)] 54)
  have hz1 : (w.alloc (.cells #[.pointer (some ⟨gb, 0, none⟩)] 54)).heap.size = w.heap.size + 1 := World.size_alloc _ _
  generalize w.alloc (.cells #[.pointer (some ⟨gb, 0, none⟩)] 54) = w1 at *
  have hn2 : Nu w1 (w1.alloc (.cells #[.string st] 9)) := Mv.alloc _ _ _
  have hb2 := heap_alloc_new w1 (.cells #[.string st] 9)
  have hz2 : (w1.alloc (.cells #[.string st] 9)).heap.size = w1.heap.size + 1 := World.size_alloc _ _
  rw [hz1] at hb2
  generalize w1.alloc (.cells #[.string st] 9) = w2 at *
  have hk : KeepF F w w2 := (mv0 hn1 hn2).keep (fun b hb => ⟨HF.out b hb, id⟩)
  refine ⟨59, _, fun b => F b ∨ b = w.heap.size ∨ b = w.heap.size + 1, rfl, mv0 hn1 hn2, enters_Next1, fun b hb => ?_, fun n hn => seq_any n hn F gb g nc rb w.heap.size (w.heap.size + 1) ns nxs st w2 (HG.out.keep hk) (hn2.heap hb1 id) hb2 HM.out HST.out (fun b hb => Nat.lt_of_lt_of_le (HF.out b hb) hk.1)⟩
  rcases hb with hb | rfl | rfl
  · exact ⟨Nat.lt_of_lt_of_le (HF.out b hb) hk.1, .inl hb⟩
  · exact ⟨by omega, .inr (Nat.le_refl _)⟩
  · exact ⟨by omega, .inr (by omega)⟩

/-- A graph of the program's is a system. -/
theorem GraphIs.sys {w : World} {F : Nat → Prop} {gb g nc rb : Nat} {ns : List Node} {nxs : List NX} (h : GraphIs w F gb ns g nc rb nxs) (hm : mayN ns = true) (hF : ∀ b, F b → b < w.heap.size) : SysAt F w 54 (.pointer (some ⟨gb, 0, none⟩)) (graphSem ns) where
  lt := hF
  does := fun w' hk => {
    bg := ⟨_, _, leads_Begin gb, Begin_any w' _ ns⟩
    nx := ⟨_, _, leads_Next gb, fun st hst => Next_any w' F gb g nc rb ns nxs (h.keep hk) hm (fun b hb => Nat.lt_of_lt_of_le (hF b hb) hk.1) st hst⟩
    lk := ⟨_, _, leads_Look gb, fun st hst => Look_any w' F gb g nc rb ns nxs (h.keep hk) st hst⟩ }

set_option maxHeartbeats 1000000 in
theorem Of_anyT (w : World) (ao : Option Addr) (cap : Nat) (ns : List Node) (h : NodesAt w w.heap.size ao ns) : Calls Try.prog 4 #[.agg #[.slice ao ns.length cap]] w fun e w' => Nu w w' ∧
    ((mayN ns = false ∧ e = .returned (.tuple #[.nilIface, .int .i64 150])) ∨ (mayN ns = true ∧ ∃ F r0, e = .returned (.tuple #[.iface 54 r0, .int .i64 0]) ∧ SysAt F w' 54 r0 (graphSem ns) ∧ ∀ b, F b → w.heap.size ≤ b)) := by
  have HNS := hid h
  clear h
  go_enter Try.func4, Try.ntmps4
  go_upto_region 1 with fail
  have HN1 : Hid (Nu w (w.alloc (.cells #[.slice ao ns.length cap] 24))) := Mv.alloc _ _ _
  have HB1 : Hid ((w.alloc (.cells #[.slice ao ns.length cap] 24)).cell? ⟨w.heap.size, 0, none⟩ = some (.slice ao ns.length cap)) := cell_blk (heap_alloc_new w _) 0
  generalize w.alloc (.cells #[.slice ao ns.length cap] 24) = w1 at *
  have c1 := HB1.out
  go_wp2_with fail
  refine (graphMayBe_any w1 ao cap ns (HNS.out.below HN1.out.nu_below HN1.out.size)).mono ?_
  rintro e w2 ⟨rfl, hn2⟩
  have HN2 := hid hn2
  have HNW : Hid (Nu w w2) := mv0 HN1.out hn2
  replace c1 := cell_mv hn2 c1 id
  clear hn2
  cases hm : mayN ns with
  | false =>
    have HM := hid hm
    clear hm
    go_wp2
    go_ret2
    exact ⟨HNW.out, .inl ⟨HM.out, rfl⟩⟩
  | true =>
    have HM := hid hm
    clear hm
    go_upto_region 3 with fail
    go_wp2_with (go_at_call 10; refine (graphOf_any w2 ao cap ns (HNS.out.below HNW.out.nu_below HNW.out.size) HM.out).mono ?_; rintro e w3 ⟨hn3, gb, g, nc, rb, nxs, rfl, hg⟩; have HN3 := hid hn3; have HG := hid hg; clear hn3 hg)
    go_ret2
    refine ⟨mv0 HNW.out HN3.out, .inr ⟨HM.out, _, _, rfl, HG.out.sys HM.out (fun b hb => hb.2), fun b hb => Nat.le_trans HNW.out.size hb.1⟩⟩

theorem Of_any (w : World) (ao : Option Addr) (cap : Nat) (ns : List Node) (h : NodesAt w w.heap.size ao ns) : Calls Try.prog 4 #[.agg #[.slice ao ns.length cap]] w fun e w' => Nu w w' ∧
    ((mayN ns = false ∧ e = .returned (.tuple #[.nilIface, .int .i64 150])) ∨ (mayN ns = true ∧ ∃ F T r0, e = .returned (.tuple #[.iface T r0, .int .i64 0]) ∧ SysAt F w' T r0 (graphSem ns) ∧ ∀ b, F b → w.heap.size ≤ b)) :=
  (Of_anyT w ao cap ns h).mono fun e w' h => ⟨h.1, h.2.imp id fun ⟨h1, F, r0, h2⟩ => ⟨h1, F, _, r0, h2⟩⟩

end Go.Proofs.Ytmlpndcelfdlhaa
