/-
  VNSaysImp, VNSaysIff, VNSaysTil, VNSaysRel, VNSaysWeak, VNDeniesTt, VNDeniesFf, VNDeniesPr.
-/
import Derived.Test.YtidihaecgmbhpabDoorM22
/-
  What says gives: imp.
-/
set_option linter.unusedSimpArgs false
set_option linter.unusedVariables false
namespace Go.Proofs.YtidihaecgmbhpabDoor
open Go.RowKit Q

set_option maxRecDepth 100000 in
set_option maxHeartbeats 8000000 in
theorem says_imp {a c : F} (hDa : DenP a) (hSc : SaysP c) : NormP 34 true (.b .imp a c) := fun w B nb m pb po hB h hn => by
  have k0 : w.cell? ⟨pb, po, none⟩ = some (.int .i64 10) := h.kind.1
  obtain ⟨kb, kp, kcap, k2, hfa, hfc⟩ := h.kidB
  have hlt : nb < w.heap.size := lt_of_block hn.blk
  have hpn : pb ≠ nb ∧ pb ≠ w.heap.size := ⟨h.ne, by have := h.lt; omega⟩
  have HPN := hid hpn
  have hM1 : Nu w (w.alloc (.cells #[.int .i64 0, .string ⟨#[]⟩, .slice none 0 0] 24)) := Mv.alloc _ _ _
  have hb1 := heap_alloc_new w (.cells #[.int .i64 0, .string ⟨#[]⟩, .slice none 0 0] 24)
  have hs1 : (w.alloc (.cells #[.int .i64 0, .string ⟨#[]⟩, .slice none 0 0] 24)).heap.size = w.heap.size + 1 := by simp
  have HN := hid hn
  have HB := hid hB
  have HFa := hid hfa
  have HFc := hid hfc
  generalize hW : w.alloc (.cells #[.int .i64 0, .string ⟨#[]⟩, .slice none 0 0] 24) = W at hM1 hb1 hs1
  have HW := hid hW
  have HM1 := hid hM1
  have HB1 := hid hb1
  have HS1 := hid hs1
  clear h hn hB hfa hfc hM1 hb1 hs1 hpn hW
  go_enter Tryd.func34, Tryd.ntmps34
  go_upto_region 1 with fail
  rw [HW.out]
  replace k0 := cell_mv HM1.out k0 id
  replace k2 := cell_mv HM1.out k2 id
  go_upto_region 18 with fail
  rename_i K1 hK1 K2 hK2
  have hpn := HPN.out
  have hs1 := HS1.out
  have hP : ∀ x, w.heap.size < x → x ≠ nb ∧ x ≠ w.heap.size := fun x hx => by omega
  have hN : ∀ x, W.heap.size ≤ x → w.heap.size < x := fun x hx => by omega
  have hS : ∀ x, (x = nb ∨ x = w.heap.size) → x = nb ∨ B ≤ x := fun x hx => by have := HB.out; omega
  have HDa : ∀ w1 m1, Mv (fun x => x = nb ∨ x = w.heap.size) W w1 → NrIs w1 nb m1 → Calls Tryd.prog 54 #[.pointer (some ⟨nb, 0, none⟩), .pointer (some ⟨kb, kp, none⟩)] w1 (NPost w1 nb m1 (cnt false a) (fun v w' => OwnT w1.heap.size w' v (col false a).t)) := fun w1 m1 hm1 hn1 =>
    hDa w1 B nb m1 kb (kp) (by have := hm1.size; have := HB.out; omega) ((HFa.out.mv HM1.out (fun _ h => h.elim)).mv hm1 hS) hn1
  have HSc : ∀ w1 m1, Mv (fun x => x = nb ∨ x = w.heap.size) W w1 → NrIs w1 nb m1 → Calls Tryd.prog 34 #[.pointer (some ⟨nb, 0, none⟩), .pointer (some ⟨kb, kp + 3, none⟩)] w1 (NPost w1 nb m1 (cnt true c) (fun v w' => OwnT w1.heap.size w' v (col true c).t)) := fun w1 m1 hm1 hn1 =>
    hSc w1 B nb m1 kb (kp + 3) (by have := hm1.size; have := HB.out; omega) ((HFc.out.mv HM1.out (fun _ h => h.elim)).mv hm1 hS) hn1
  have eS := enters_of Tryd.func34 (by kernel_rfl) rfl
  have eD := enters_of Tryd.func54 (by kernel_rfl) rfl
  refine wp_made (plan := [.fix 102 (.pointer (some ⟨nb, 0, none⟩)), .fix 103 (.pointer (some ⟨nb, 0, none⟩)), .fix 104 (.pointer (some ⟨pb, po, none⟩)), .fix 105 (.pointer (some ⟨pb, po, none⟩)), .fix 106 (.pointer (some ⟨pb, po + 2, none⟩)), .fix 107 (.slice (some ⟨kb, kp, none⟩) 2 kcap), .fix 108 (.pointer (some ⟨kb, kp, none⟩)), .tree 109 (col false a).t (cnt false a), .fix 110 (.pointer (some ⟨nb, 0, none⟩)), .fix 111 (.pointer (some ⟨pb, po, none⟩)), .fix 112 (.pointer (some ⟨pb, po, none⟩)), .fix 113 (.pointer (some ⟨pb, po + 2, none⟩)), .fix 114 (.slice (some ⟨kb, kp, none⟩) 2 kcap), .fix 115 (.pointer (some ⟨kb, kp + 3, none⟩)), .tree 116 (col true c).t (cnt true c), .row 117 [(col false a).t, (col true c).t], .tree 118 (.mk 9 [] [(col false a).t, (col true c).t]) 1, .store (.mk 9 [] [(col false a).t, (col true c).t])]) (P0 := fun x => w.heap.size < x) (nb := nb) (rb := w.heap.size) (m := m) (by kernel_rfl) ?plan hP (by omega) (HN.out.nu HM1.out) ⟨_, _, _, HB1.out, _, _, _, _, _, rfl, rfl, rfl⟩ ?ok ?die
  case plan =>
    refine nplan_mk rfl rfl (fun i o ho => ?_)
    have hi : i < 18 := (Array.getElem?_eq_some_iff.1 ho).1
    have : i = 0 ∨ i = 1 ∨ i = 2 ∨ i = 3 ∨ i = 4 ∨ i = 5 ∨ i = 6 ∨ i = 7 ∨ i = 8 ∨ i = 9 ∨ i = 10 ∨ i = 11 ∨ i = 12 ∨ i = 13 ∨ i = 14 ∨ i = 15 ∨ i = 16 ∨ i = 17 := by omega
    rcases this with rfl | rfl | rfl | rfl | rfl | rfl | rfl | rfl | rfl | rfl | rfl | rfl | rfl | rfl | rfl | rfl | rfl | rfl <;> cases ho
    · exact ⟨_, rfl, rfl, rfl, st_move rfl rfl (Slot.fr (free_slot rfl) rfl)⟩
    · exact ⟨_, rfl, rfl, rfl, st_move rfl rfl (Slot.fr (free_slot rfl) rfl)⟩
    · exact ⟨_, rfl, rfl, rfl, st_move rfl rfl (Slot.fr (free_slot rfl) rfl)⟩
    · exact ⟨_, rfl, rfl, rfl, st_nil rfl rfl (Slot.dep ⟨⟨2, .data⟩, by simp, rfl, rfl⟩ rfl)⟩
    · exact ⟨_, rfl, rfl, rfl, st_field2 rfl rfl (Slot.dep ⟨⟨3, .data⟩, by simp, rfl, rfl⟩ rfl)⟩
    · exact ⟨_, rfl, rfl, rfl, st_loadL rfl rfl (Slot.dep ⟨⟨4, .data⟩, by simp, rfl, rfl⟩ rfl) k2 hpn⟩
    · exact ⟨_, rfl, rfl, rfl, st_ix0 rfl rfl (Slot.dep ⟨⟨5, .data⟩, by simp, rfl, rfl⟩ rfl)⟩
    · exact ⟨_, rfl, rfl, rfl, st_call eD hN rfl rfl (Slot.dep ⟨⟨1, .data⟩, by simp, rfl, rfl⟩ rfl) (Slot.dep ⟨⟨6, .data⟩, by simp, rfl, rfl⟩ rfl) HDa⟩
    · exact ⟨_, rfl, rfl, rfl, st_move rfl rfl (Slot.fr (free_slot rfl) rfl)⟩
    · exact ⟨_, rfl, rfl, rfl, st_move rfl rfl (Slot.fr (free_slot rfl) rfl)⟩
    · exact ⟨_, rfl, rfl, rfl, st_nil rfl rfl (Slot.dep ⟨⟨9, .data⟩, by simp, rfl, rfl⟩ rfl)⟩
    · exact ⟨_, rfl, rfl, rfl, st_field2 rfl rfl (Slot.dep ⟨⟨10, .data⟩, by simp, rfl, rfl⟩ rfl)⟩
    · exact ⟨_, rfl, rfl, rfl, st_loadL rfl rfl (Slot.dep ⟨⟨11, .data⟩, by simp, rfl, rfl⟩ rfl) k2 hpn⟩
    · exact ⟨_, rfl, rfl, rfl, st_ix1 rfl rfl (Slot.dep ⟨⟨12, .data⟩, by simp, rfl, rfl⟩ rfl)⟩
    · exact ⟨_, rfl, rfl, rfl, st_call eS hN rfl rfl (Slot.dep ⟨⟨8, .data⟩, by simp, rfl, rfl⟩ rfl) (Slot.dep ⟨⟨13, .data⟩, by simp, rfl, rfl⟩ rfl) HSc⟩
    · exact ⟨_, rfl, rfl, rfl, st_row2 hN rfl rfl (TSlot.dep ⟨⟨7, .data⟩, by simp, rfl, rfl⟩ rfl) (TSlot.dep ⟨⟨14, .data⟩, by simp, rfl, rfl⟩ rfl)⟩
    · exact ⟨_, rfl, rfl, rfl, st_part (by decide) hP rfl rfl (Slot.dep ⟨⟨0, .data⟩, by simp, rfl, rfl⟩ rfl) Opnd.const (LOpnd.dep ⟨⟨15, .data⟩, by simp, rfl, rfl⟩ rfl)⟩
    · exact ⟨_, rfl, rfl, rfl, st_store hP rfl rfl (Slot.fr (free_slot rfl) rfl) (TSlot.dep ⟨⟨16, .data⟩, by simp, rfl, rfl⟩ rfl)⟩
  case ok =>
    intro htot a1 w1 hdf hfr hmv hnr hst hfx
    obtain ⟨d0, d1, d2, hb, ho⟩ := hst (.mk 9 [] [(col false a).t, (col true c).t]) (by simp)
    have h4 : a1.tmps[4]? = some (.pointer (some ⟨w.heap.size, 0, none⟩)) := hfr 4 (free_slot rfl)
    refine hK2 _ _ ?_
    refine wp_ret ?_
    obtain ⟨qk, qs, qo, ql, qc, rfl, rfl, rfl⟩ := hb.2
    obtain ⟨p0, p1, p2, _, _, _⟩ := three hb.1
    have e : total [.fix 102 (.pointer (some ⟨nb, 0, none⟩)), .fix 103 (.pointer (some ⟨nb, 0, none⟩)), .fix 104 (.pointer (some ⟨pb, po, none⟩)), .fix 105 (.pointer (some ⟨pb, po, none⟩)), .fix 106 (.pointer (some ⟨pb, po + 2, none⟩)), .fix 107 (.slice (some ⟨kb, kp, none⟩) 2 kcap), .fix 108 (.pointer (some ⟨kb, kp, none⟩)), .tree 109 (col false a).t (cnt false a), .fix 110 (.pointer (some ⟨nb, 0, none⟩)), .fix 111 (.pointer (some ⟨pb, po, none⟩)), .fix 112 (.pointer (some ⟨pb, po, none⟩)), .fix 113 (.pointer (some ⟨pb, po + 2, none⟩)), .fix 114 (.slice (some ⟨kb, kp, none⟩) 2 kcap), .fix 115 (.pointer (some ⟨kb, kp + 3, none⟩)), .tree 116 (col true c).t (cnt true c), .row 117 [(col false a).t, (col true c).t], .tree 118 (.mk 9 [] [(col false a).t, (col true c).t]) 1, .store (.mk 9 [] [(col false a).t, (col true c).t])] = cnt true (.b .imp a c) := by simp [total, NO.cost, cnt] <;> omega
    rw [e] at htot hnr
    have hcol : (col true (.b .imp a c)).t = (.mk 9 [] [(col false a).t, (col true c).t]) := by simp [col, F.t, Q.U.kind, Q.B.kind, opp]
    refine bodyPost_ret (v := .agg #[.int .i64 qk, .string qs, .slice qo ql qc]) (by simp [results, Tryd.results34, go_sem, h4, p0, p1, p2]) (by rw [hdf]) ?_
    rw [hcol]
    exact norm_end HM1.out hmv htot hnr rfl ho
  case die =>
    intro htot a1 w1 hdf hmv
    have e : total [.fix 102 (.pointer (some ⟨nb, 0, none⟩)), .fix 103 (.pointer (some ⟨nb, 0, none⟩)), .fix 104 (.pointer (some ⟨pb, po, none⟩)), .fix 105 (.pointer (some ⟨pb, po, none⟩)), .fix 106 (.pointer (some ⟨pb, po + 2, none⟩)), .fix 107 (.slice (some ⟨kb, kp, none⟩) 2 kcap), .fix 108 (.pointer (some ⟨kb, kp, none⟩)), .tree 109 (col false a).t (cnt false a), .fix 110 (.pointer (some ⟨nb, 0, none⟩)), .fix 111 (.pointer (some ⟨pb, po, none⟩)), .fix 112 (.pointer (some ⟨pb, po, none⟩)), .fix 113 (.pointer (some ⟨pb, po + 2, none⟩)), .fix 114 (.slice (some ⟨kb, kp, none⟩) 2 kcap), .fix 115 (.pointer (some ⟨kb, kp + 3, none⟩)), .tree 116 (col true c).t (cnt true c), .row 117 [(col false a).t, (col true c).t], .tree 118 (.mk 9 [] [(col false a).t, (col true c).t]) 1, .store (.mk 9 [] [(col false a).t, (col true c).t])] = cnt true (.b .imp a c) := by simp [total, NO.cost, cnt] <;> omega
    rw [e] at htot
    exact ⟨hdf, NPost.no ((HM1.out.mono (T := (· = nb)) (fun _ h => h.elim)).trans hmv (fun x hx => by rcases hx with h | h; exact .inl h; exact .inr (by omega))) htot⟩

end Go.Proofs.YtidihaecgmbhpabDoor
/-
  What says gives: iff.
-/
set_option linter.unusedSimpArgs false
set_option linter.unusedVariables false
namespace Go.Proofs.YtidihaecgmbhpabDoor
open Go.RowKit Q

set_option maxRecDepth 100000 in
set_option maxHeartbeats 8000000 in
theorem says_iff {a c : F} (hSa : SaysP a) (hDa : DenP a) (hSc : SaysP c) (hDc : DenP c) : NormP 34 true (.b .iff a c) := fun w B nb m pb po hB h hn => by
  have k0 : w.cell? ⟨pb, po, none⟩ = some (.int .i64 11) := h.kind.1
  obtain ⟨kb, kp, kcap, k2, hfa, hfc⟩ := h.kidB
  have hlt : nb < w.heap.size := lt_of_block hn.blk
  have hpn : pb ≠ nb ∧ pb ≠ w.heap.size := ⟨h.ne, by have := h.lt; omega⟩
  have HPN := hid hpn
  have hM1 : Nu w (w.alloc (.cells #[.int .i64 0, .string ⟨#[]⟩, .slice none 0 0] 24)) := Mv.alloc _ _ _
  have hb1 := heap_alloc_new w (.cells #[.int .i64 0, .string ⟨#[]⟩, .slice none 0 0] 24)
  have hs1 : (w.alloc (.cells #[.int .i64 0, .string ⟨#[]⟩, .slice none 0 0] 24)).heap.size = w.heap.size + 1 := by simp
  have HN := hid hn
  have HB := hid hB
  have HFa := hid hfa
  have HFc := hid hfc
  generalize hW : w.alloc (.cells #[.int .i64 0, .string ⟨#[]⟩, .slice none 0 0] 24) = W at hM1 hb1 hs1
  have HW := hid hW
  have HM1 := hid hM1
  have HB1 := hid hb1
  have HS1 := hid hs1
  clear h hn hB hfa hfc hM1 hb1 hs1 hpn hW
  go_enter Tryd.func34, Tryd.ntmps34
  go_upto_region 1 with fail
  rw [HW.out]
  replace k0 := cell_mv HM1.out k0 id
  replace k2 := cell_mv HM1.out k2 id
  go_upto_region 20 with fail
  go_quiet (fail)
  have hM2 := mv0 HM1.out (Mv.drewN (fun _ => False) W nq)
  have hb2 := (Mv.drewN (fun _ => False) W nq).heap HB1.out id
  have hs2 : (W.drewN nq).heap.size = w.heap.size + 1 := HS1.out
  clear HM1 HB1 HS1 HW k0 k2
  generalize hW2 : World.drewN _ _ = W2 at hM2 hb2 hs2 ⊢
  clear hW2
  have HM1 := hid hM2
  have HB1 := hid hb2
  have HS1 := hid hs2
  clear hM2 hb2 hs2
  go_upto_region 21 with fail
  rename_i K1 hK1 K2 hK2
  have hpn := HPN.out
  have hs1 := HS1.out
  have hP : ∀ x, w.heap.size < x → x ≠ nb ∧ x ≠ w.heap.size := fun x hx => by omega
  have hN : ∀ x, W2.heap.size ≤ x → w.heap.size < x := fun x hx => by omega
  have hS : ∀ x, (x = nb ∨ x = w.heap.size) → x = nb ∨ B ≤ x := fun x hx => by have := HB.out; omega
  have HSa : ∀ w1 m1, Mv (fun x => x = nb ∨ x = w.heap.size) W2 w1 → NrIs w1 nb m1 → Calls Tryd.prog 34 #[.pointer (some ⟨nb, 0, none⟩), .pointer (some ⟨kb, kp, none⟩)] w1 (NPost w1 nb m1 (cnt true a) (fun v w' => OwnT w1.heap.size w' v (col true a).t)) := fun w1 m1 hm1 hn1 =>
    hSa w1 B nb m1 kb (kp) (by have := hm1.size; have := HB.out; omega) ((HFa.out.mv HM1.out (fun _ h => h.elim)).mv hm1 hS) hn1
  have HDa : ∀ w1 m1, Mv (fun x => x = nb ∨ x = w.heap.size) W2 w1 → NrIs w1 nb m1 → Calls Tryd.prog 54 #[.pointer (some ⟨nb, 0, none⟩), .pointer (some ⟨kb, kp, none⟩)] w1 (NPost w1 nb m1 (cnt false a) (fun v w' => OwnT w1.heap.size w' v (col false a).t)) := fun w1 m1 hm1 hn1 =>
    hDa w1 B nb m1 kb (kp) (by have := hm1.size; have := HB.out; omega) ((HFa.out.mv HM1.out (fun _ h => h.elim)).mv hm1 hS) hn1
  have HSc : ∀ w1 m1, Mv (fun x => x = nb ∨ x = w.heap.size) W2 w1 → NrIs w1 nb m1 → Calls Tryd.prog 34 #[.pointer (some ⟨nb, 0, none⟩), .pointer (some ⟨kb, kp + 3, none⟩)] w1 (NPost w1 nb m1 (cnt true c) (fun v w' => OwnT w1.heap.size w' v (col true c).t)) := fun w1 m1 hm1 hn1 =>
    hSc w1 B nb m1 kb (kp + 3) (by have := hm1.size; have := HB.out; omega) ((HFc.out.mv HM1.out (fun _ h => h.elim)).mv hm1 hS) hn1
  have HDc : ∀ w1 m1, Mv (fun x => x = nb ∨ x = w.heap.size) W2 w1 → NrIs w1 nb m1 → Calls Tryd.prog 54 #[.pointer (some ⟨nb, 0, none⟩), .pointer (some ⟨kb, kp + 3, none⟩)] w1 (NPost w1 nb m1 (cnt false c) (fun v w' => OwnT w1.heap.size w' v (col false c).t)) := fun w1 m1 hm1 hn1 =>
    hDc w1 B nb m1 kb (kp + 3) (by have := hm1.size; have := HB.out; omega) ((HFc.out.mv HM1.out (fun _ h => h.elim)).mv hm1 hS) hn1
  have eS := enters_of Tryd.func34 (by kernel_rfl) rfl
  have eD := enters_of Tryd.func54 (by kernel_rfl) rfl
  refine wp_made_in (plan := [.fix 131 (.pointer (some ⟨nb, 0, none⟩)), .fix 132 (.pointer (some ⟨nb, 0, none⟩)), .fix 133 (.pointer (some ⟨nb, 0, none⟩)), .fix 134 (.pointer (some ⟨kb, kp, none⟩)), .tree 135 (col true a).t (cnt true a), .fix 136 (.pointer (some ⟨nb, 0, none⟩)), .fix 137 (.pointer (some ⟨kb, kp + 3, none⟩)), .tree 138 (col true c).t (cnt true c), .row 139 [(col true a).t, (col true c).t], .tree 140 (.mk 8 [] [(col true a).t, (col true c).t]) 1, .fix 141 (.pointer (some ⟨nb, 0, none⟩)), .fix 142 (.pointer (some ⟨nb, 0, none⟩)), .fix 143 (.pointer (some ⟨kb, kp, none⟩)), .tree 144 (col false a).t (cnt false a), .fix 145 (.pointer (some ⟨nb, 0, none⟩)), .fix 146 (.pointer (some ⟨kb, kp + 3, none⟩)), .tree 147 (col false c).t (cnt false c), .row 148 [(col false a).t, (col false c).t], .tree 149 (.mk 8 [] [(col false a).t, (col false c).t]) 1, .row 150 [(.mk 8 [] [(col true a).t, (col true c).t]), (.mk 8 [] [(col false a).t, (col false c).t])], .tree 151 (.mk 9 [] [(.mk 8 [] [(col true a).t, (col true c).t]), (.mk 8 [] [(col false a).t, (col false c).t])]) 1, .store (.mk 9 [] [(.mk 8 [] [(col true a).t, (col true c).t]), (.mk 8 [] [(col false a).t, (col false c).t])])]) (P0 := fun x => w.heap.size < x) (nb := nb) (rb := w.heap.size) (m := m) ?plan hP (by omega) (HN.out.nu HM1.out) ⟨_, _, _, HB1.out, _, _, _, _, _, rfl, rfl, rfl⟩ ?ok ?die
  case plan =>
    refine nplan_mk rfl rfl (fun i o ho => ?_)
    have hi : i < 22 := (Array.getElem?_eq_some_iff.1 ho).1
    have : i = 0 ∨ i = 1 ∨ i = 2 ∨ i = 3 ∨ i = 4 ∨ i = 5 ∨ i = 6 ∨ i = 7 ∨ i = 8 ∨ i = 9 ∨ i = 10 ∨ i = 11 ∨ i = 12 ∨ i = 13 ∨ i = 14 ∨ i = 15 ∨ i = 16 ∨ i = 17 ∨ i = 18 ∨ i = 19 ∨ i = 20 ∨ i = 21 := by omega
    rcases this with rfl | rfl | rfl | rfl | rfl | rfl | rfl | rfl | rfl | rfl | rfl | rfl | rfl | rfl | rfl | rfl | rfl | rfl | rfl | rfl | rfl | rfl <;> cases ho
    · exact ⟨_, rfl, rfl, rfl, st_move rfl rfl (Slot.fr (free_slot rfl) rfl)⟩
    · exact ⟨_, rfl, rfl, rfl, st_move rfl rfl (Slot.fr (free_slot rfl) rfl)⟩
    · exact ⟨_, rfl, rfl, rfl, st_move rfl rfl (Slot.fr (free_slot rfl) rfl)⟩
    · exact ⟨_, rfl, rfl, rfl, st_move rfl rfl (Slot.fr (free_slot rfl) rfl)⟩
    · exact ⟨_, rfl, rfl, rfl, st_call eS hN rfl rfl (Slot.dep ⟨⟨2, .data⟩, by simp, rfl, rfl⟩ rfl) (Slot.dep ⟨⟨3, .data⟩, by simp, rfl, rfl⟩ rfl) HSa⟩
    · exact ⟨_, rfl, rfl, rfl, st_move rfl rfl (Slot.fr (free_slot rfl) rfl)⟩
    · exact ⟨_, rfl, rfl, rfl, st_move rfl rfl (Slot.fr (free_slot rfl) rfl)⟩
    · exact ⟨_, rfl, rfl, rfl, st_call eS hN rfl rfl (Slot.dep ⟨⟨5, .data⟩, by simp, rfl, rfl⟩ rfl) (Slot.dep ⟨⟨6, .data⟩, by simp, rfl, rfl⟩ rfl) HSc⟩
    · exact ⟨_, rfl, rfl, rfl, st_row2 hN rfl rfl (TSlot.dep ⟨⟨4, .data⟩, by simp, rfl, rfl⟩ rfl) (TSlot.dep ⟨⟨7, .data⟩, by simp, rfl, rfl⟩ rfl)⟩
    · exact ⟨_, rfl, rfl, rfl, st_part (by decide) hP rfl rfl (Slot.dep ⟨⟨1, .data⟩, by simp, rfl, rfl⟩ rfl) Opnd.const (LOpnd.dep ⟨⟨8, .data⟩, by simp, rfl, rfl⟩ rfl)⟩
    · exact ⟨_, rfl, rfl, rfl, st_move rfl rfl (Slot.fr (free_slot rfl) rfl)⟩
    · exact ⟨_, rfl, rfl, rfl, st_move rfl rfl (Slot.fr (free_slot rfl) rfl)⟩
    · exact ⟨_, rfl, rfl, rfl, st_move rfl rfl (Slot.fr (free_slot rfl) rfl)⟩
    · exact ⟨_, rfl, rfl, rfl, st_call eD hN rfl rfl (Slot.dep ⟨⟨11, .data⟩, by simp, rfl, rfl⟩ rfl) (Slot.dep ⟨⟨12, .data⟩, by simp, rfl, rfl⟩ rfl) HDa⟩
    · exact ⟨_, rfl, rfl, rfl, st_move rfl rfl (Slot.fr (free_slot rfl) rfl)⟩
    · exact ⟨_, rfl, rfl, rfl, st_move rfl rfl (Slot.fr (free_slot rfl) rfl)⟩
    · exact ⟨_, rfl, rfl, rfl, st_call eD hN rfl rfl (Slot.dep ⟨⟨14, .data⟩, by simp, rfl, rfl⟩ rfl) (Slot.dep ⟨⟨15, .data⟩, by simp, rfl, rfl⟩ rfl) HDc⟩
    · exact ⟨_, rfl, rfl, rfl, st_row2 hN rfl rfl (TSlot.dep ⟨⟨13, .data⟩, by simp, rfl, rfl⟩ rfl) (TSlot.dep ⟨⟨16, .data⟩, by simp, rfl, rfl⟩ rfl)⟩
    · exact ⟨_, rfl, rfl, rfl, st_part (by decide) hP rfl rfl (Slot.dep ⟨⟨10, .data⟩, by simp, rfl, rfl⟩ rfl) Opnd.const (LOpnd.dep ⟨⟨17, .data⟩, by simp, rfl, rfl⟩ rfl)⟩
    · exact ⟨_, rfl, rfl, rfl, st_row2 hN rfl rfl (TSlot.dep ⟨⟨9, .data⟩, by simp, rfl, rfl⟩ rfl) (TSlot.dep ⟨⟨18, .data⟩, by simp, rfl, rfl⟩ rfl)⟩
    · exact ⟨_, rfl, rfl, rfl, st_part (by decide) hP rfl rfl (Slot.dep ⟨⟨0, .data⟩, by simp, rfl, rfl⟩ rfl) Opnd.const (LOpnd.dep ⟨⟨19, .data⟩, by simp, rfl, rfl⟩ rfl)⟩
    · exact ⟨_, rfl, rfl, rfl, st_store hP rfl rfl (Slot.fr (free_slot rfl) rfl) (TSlot.dep ⟨⟨20, .data⟩, by simp, rfl, rfl⟩ rfl)⟩
  case ok =>
    intro htot a1 w1 hdf hfr hmv hnr hst hfx
    obtain ⟨d0, d1, d2, hb, ho⟩ := hst (.mk 9 [] [(.mk 8 [] [(col true a).t, (col true c).t]), (.mk 8 [] [(col false a).t, (col false c).t])]) (by simp)
    have h4 : a1.tmps[4]? = some (.pointer (some ⟨w.heap.size, 0, none⟩)) := hfr 4 (free_slot rfl)
    refine hK2 _ _ ?_
    refine wp_ret ?_
    obtain ⟨qk, qs, qo, ql, qc, rfl, rfl, rfl⟩ := hb.2
    obtain ⟨p0, p1, p2, _, _, _⟩ := three hb.1
    have e : total [.fix 131 (.pointer (some ⟨nb, 0, none⟩)), .fix 132 (.pointer (some ⟨nb, 0, none⟩)), .fix 133 (.pointer (some ⟨nb, 0, none⟩)), .fix 134 (.pointer (some ⟨kb, kp, none⟩)), .tree 135 (col true a).t (cnt true a), .fix 136 (.pointer (some ⟨nb, 0, none⟩)), .fix 137 (.pointer (some ⟨kb, kp + 3, none⟩)), .tree 138 (col true c).t (cnt true c), .row 139 [(col true a).t, (col true c).t], .tree 140 (.mk 8 [] [(col true a).t, (col true c).t]) 1, .fix 141 (.pointer (some ⟨nb, 0, none⟩)), .fix 142 (.pointer (some ⟨nb, 0, none⟩)), .fix 143 (.pointer (some ⟨kb, kp, none⟩)), .tree 144 (col false a).t (cnt false a), .fix 145 (.pointer (some ⟨nb, 0, none⟩)), .fix 146 (.pointer (some ⟨kb, kp + 3, none⟩)), .tree 147 (col false c).t (cnt false c), .row 148 [(col false a).t, (col false c).t], .tree 149 (.mk 8 [] [(col false a).t, (col false c).t]) 1, .row 150 [(.mk 8 [] [(col true a).t, (col true c).t]), (.mk 8 [] [(col false a).t, (col false c).t])], .tree 151 (.mk 9 [] [(.mk 8 [] [(col true a).t, (col true c).t]), (.mk 8 [] [(col false a).t, (col false c).t])]) 1, .store (.mk 9 [] [(.mk 8 [] [(col true a).t, (col true c).t]), (.mk 8 [] [(col false a).t, (col false c).t])])] = cnt true (.b .iff a c) := by simp [total, NO.cost, cnt] <;> omega
    rw [e] at htot hnr
    have hcol : (col true (.b .iff a c)).t = (.mk 9 [] [(.mk 8 [] [(col true a).t, (col true c).t]), (.mk 8 [] [(col false a).t, (col false c).t])]) := by simp [col, F.t, Q.U.kind, Q.B.kind, opp]
    refine bodyPost_ret (v := .agg #[.int .i64 qk, .string qs, .slice qo ql qc]) (by simp [results, Tryd.results34, go_sem, h4, p0, p1, p2]) (by rw [hdf]) ?_
    rw [hcol]
    exact norm_end HM1.out hmv htot hnr rfl ho
  case die =>
    intro htot a1 w1 hdf hmv
    have e : total [.fix 131 (.pointer (some ⟨nb, 0, none⟩)), .fix 132 (.pointer (some ⟨nb, 0, none⟩)), .fix 133 (.pointer (some ⟨nb, 0, none⟩)), .fix 134 (.pointer (some ⟨kb, kp, none⟩)), .tree 135 (col true a).t (cnt true a), .fix 136 (.pointer (some ⟨nb, 0, none⟩)), .fix 137 (.pointer (some ⟨kb, kp + 3, none⟩)), .tree 138 (col true c).t (cnt true c), .row 139 [(col true a).t, (col true c).t], .tree 140 (.mk 8 [] [(col true a).t, (col true c).t]) 1, .fix 141 (.pointer (some ⟨nb, 0, none⟩)), .fix 142 (.pointer (some ⟨nb, 0, none⟩)), .fix 143 (.pointer (some ⟨kb, kp, none⟩)), .tree 144 (col false a).t (cnt false a), .fix 145 (.pointer (some ⟨nb, 0, none⟩)), .fix 146 (.pointer (some ⟨kb, kp + 3, none⟩)), .tree 147 (col false c).t (cnt false c), .row 148 [(col false a).t, (col false c).t], .tree 149 (.mk 8 [] [(col false a).t, (col false c).t]) 1, .row 150 [(.mk 8 [] [(col true a).t, (col true c).t]), (.mk 8 [] [(col false a).t, (col false c).t])], .tree 151 (.mk 9 [] [(.mk 8 [] [(col true a).t, (col true c).t]), (.mk 8 [] [(col false a).t, (col false c).t])]) 1, .store (.mk 9 [] [(.mk 8 [] [(col true a).t, (col true c).t]), (.mk 8 [] [(col false a).t, (col false c).t])])] = cnt true (.b .iff a c) := by simp [total, NO.cost, cnt] <;> omega
    rw [e] at htot
    exact ⟨hdf, NPost.no ((HM1.out.mono (T := (· = nb)) (fun _ h => h.elim)).trans hmv (fun x hx => by rcases hx with h | h; exact .inl h; exact .inr (by omega))) htot⟩

end Go.Proofs.YtidihaecgmbhpabDoor
/-
  What says gives: til.
-/
set_option linter.unusedSimpArgs false
set_option linter.unusedVariables false
namespace Go.Proofs.YtidihaecgmbhpabDoor
open Go.RowKit Q

set_option maxRecDepth 100000 in
set_option maxHeartbeats 8000000 in
theorem says_til {a c : F} (hSa : SaysP a) (hSc : SaysP c) : NormP 34 true (.b .til a c) := fun w B nb m pb po hB h hn => by
  have k0 : w.cell? ⟨pb, po, none⟩ = some (.int .i64 12) := h.kind.1
  obtain ⟨kb, kp, kcap, k2, hfa, hfc⟩ := h.kidB
  have hlt : nb < w.heap.size := lt_of_block hn.blk
  have hpn : pb ≠ nb ∧ pb ≠ w.heap.size := ⟨h.ne, by have := h.lt; omega⟩
  have HPN := hid hpn
  have hM1 : Nu w (w.alloc (.cells #[.int .i64 0, .string ⟨#[]⟩, .slice none 0 0] 24)) := Mv.alloc _ _ _
  have hb1 := heap_alloc_new w (.cells #[.int .i64 0, .string ⟨#[]⟩, .slice none 0 0] 24)
  have hs1 : (w.alloc (.cells #[.int .i64 0, .string ⟨#[]⟩, .slice none 0 0] 24)).heap.size = w.heap.size + 1 := by simp
  have HN := hid hn
  have HB := hid hB
  have HFa := hid hfa
  have HFc := hid hfc
  generalize hW : w.alloc (.cells #[.int .i64 0, .string ⟨#[]⟩, .slice none 0 0] 24) = W at hM1 hb1 hs1
  have HW := hid hW
  have HM1 := hid hM1
  have HB1 := hid hb1
  have HS1 := hid hs1
  clear h hn hB hfa hfc hM1 hb1 hs1 hpn hW
  go_enter Tryd.func34, Tryd.ntmps34
  go_upto_region 1 with fail
  rw [HW.out]
  replace k0 := cell_mv HM1.out k0 id
  replace k2 := cell_mv HM1.out k2 id
  go_upto_region 16 with fail
  rename_i K1 hK1 K2 hK2
  have hpn := HPN.out
  have hs1 := HS1.out
  have hP : ∀ x, w.heap.size < x → x ≠ nb ∧ x ≠ w.heap.size := fun x hx => by omega
  have hN : ∀ x, W.heap.size ≤ x → w.heap.size < x := fun x hx => by omega
  have hS : ∀ x, (x = nb ∨ x = w.heap.size) → x = nb ∨ B ≤ x := fun x hx => by have := HB.out; omega
  have HSa : ∀ w1 m1, Mv (fun x => x = nb ∨ x = w.heap.size) W w1 → NrIs w1 nb m1 → Calls Tryd.prog 34 #[.pointer (some ⟨nb, 0, none⟩), .pointer (some ⟨kb, kp, none⟩)] w1 (NPost w1 nb m1 (cnt true a) (fun v w' => OwnT w1.heap.size w' v (col true a).t)) := fun w1 m1 hm1 hn1 =>
    hSa w1 B nb m1 kb (kp) (by have := hm1.size; have := HB.out; omega) ((HFa.out.mv HM1.out (fun _ h => h.elim)).mv hm1 hS) hn1
  have HSc : ∀ w1 m1, Mv (fun x => x = nb ∨ x = w.heap.size) W w1 → NrIs w1 nb m1 → Calls Tryd.prog 34 #[.pointer (some ⟨nb, 0, none⟩), .pointer (some ⟨kb, kp + 3, none⟩)] w1 (NPost w1 nb m1 (cnt true c) (fun v w' => OwnT w1.heap.size w' v (col true c).t)) := fun w1 m1 hm1 hn1 =>
    hSc w1 B nb m1 kb (kp + 3) (by have := hm1.size; have := HB.out; omega) ((HFc.out.mv HM1.out (fun _ h => h.elim)).mv hm1 hS) hn1
  have eS := enters_of Tryd.func34 (by kernel_rfl) rfl
  refine wp_made (plan := [.fix 79 (.pointer (some ⟨nb, 0, none⟩)), .fix 80 (.pointer (some ⟨pb, po, none⟩)), .fix 81 (.pointer (some ⟨pb, po, none⟩)), .fix 82 (.pointer (some ⟨pb, po, none⟩)), .fix 83 (.int .i64 12), .fix 84 (.pointer (some ⟨nb, 0, none⟩)), .fix 85 (.pointer (some ⟨pb, po, none⟩)), .fix 86 (.pointer (some ⟨pb, po, none⟩)), .fix 87 (.pointer (some ⟨pb, po + 2, none⟩)), .fix 88 (.slice (some ⟨kb, kp, none⟩) 2 kcap), .fix 89 (.pointer (some ⟨kb, kp, none⟩)), .tree 90 (col true a).t (cnt true a), .fix 91 (.pointer (some ⟨nb, 0, none⟩)), .fix 92 (.pointer (some ⟨pb, po, none⟩)), .fix 93 (.pointer (some ⟨pb, po, none⟩)), .fix 94 (.pointer (some ⟨pb, po + 2, none⟩)), .fix 95 (.slice (some ⟨kb, kp, none⟩) 2 kcap), .fix 96 (.pointer (some ⟨kb, kp + 3, none⟩)), .tree 97 (col true c).t (cnt true c), .row 98 [(col true a).t, (col true c).t], .tree 99 (.mk 12 [] [(col true a).t, (col true c).t]) 1, .store (.mk 12 [] [(col true a).t, (col true c).t])]) (P0 := fun x => w.heap.size < x) (nb := nb) (rb := w.heap.size) (m := m) (by kernel_rfl) ?plan hP (by omega) (HN.out.nu HM1.out) ⟨_, _, _, HB1.out, _, _, _, _, _, rfl, rfl, rfl⟩ ?ok ?die
  case plan =>
    refine nplan_mk rfl rfl (fun i o ho => ?_)
    have hi : i < 22 := (Array.getElem?_eq_some_iff.1 ho).1
    have : i = 0 ∨ i = 1 ∨ i = 2 ∨ i = 3 ∨ i = 4 ∨ i = 5 ∨ i = 6 ∨ i = 7 ∨ i = 8 ∨ i = 9 ∨ i = 10 ∨ i = 11 ∨ i = 12 ∨ i = 13 ∨ i = 14 ∨ i = 15 ∨ i = 16 ∨ i = 17 ∨ i = 18 ∨ i = 19 ∨ i = 20 ∨ i = 21 := by omega
    rcases this with rfl | rfl | rfl | rfl | rfl | rfl | rfl | rfl | rfl | rfl | rfl | rfl | rfl | rfl | rfl | rfl | rfl | rfl | rfl | rfl | rfl | rfl <;> cases ho
    · exact ⟨_, rfl, rfl, rfl, st_move rfl rfl (Slot.fr (free_slot rfl) rfl)⟩
    · exact ⟨_, rfl, rfl, rfl, st_move rfl rfl (Slot.fr (free_slot rfl) rfl)⟩
    · exact ⟨_, rfl, rfl, rfl, st_nil rfl rfl (Slot.dep ⟨⟨1, .data⟩, by simp, rfl, rfl⟩ rfl)⟩
    · exact ⟨_, rfl, rfl, rfl, st_field0 rfl rfl (Slot.dep ⟨⟨2, .data⟩, by simp, rfl, rfl⟩ rfl)⟩
    · exact ⟨_, rfl, rfl, rfl, st_loadI rfl rfl (Slot.dep ⟨⟨3, .data⟩, by simp, rfl, rfl⟩ rfl) k0 hpn⟩
    · exact ⟨_, rfl, rfl, rfl, st_move rfl rfl (Slot.fr (free_slot rfl) rfl)⟩
    · exact ⟨_, rfl, rfl, rfl, st_move rfl rfl (Slot.fr (free_slot rfl) rfl)⟩
    · exact ⟨_, rfl, rfl, rfl, st_nil rfl rfl (Slot.dep ⟨⟨6, .data⟩, by simp, rfl, rfl⟩ rfl)⟩
    · exact ⟨_, rfl, rfl, rfl, st_field2 rfl rfl (Slot.dep ⟨⟨7, .data⟩, by simp, rfl, rfl⟩ rfl)⟩
    · exact ⟨_, rfl, rfl, rfl, st_loadL rfl rfl (Slot.dep ⟨⟨8, .data⟩, by simp, rfl, rfl⟩ rfl) k2 hpn⟩
    · exact ⟨_, rfl, rfl, rfl, st_ix0 rfl rfl (Slot.dep ⟨⟨9, .data⟩, by simp, rfl, rfl⟩ rfl)⟩
    · exact ⟨_, rfl, rfl, rfl, st_call eS hN rfl rfl (Slot.dep ⟨⟨5, .data⟩, by simp, rfl, rfl⟩ rfl) (Slot.dep ⟨⟨10, .data⟩, by simp, rfl, rfl⟩ rfl) HSa⟩
    · exact ⟨_, rfl, rfl, rfl, st_move rfl rfl (Slot.fr (free_slot rfl) rfl)⟩
    · exact ⟨_, rfl, rfl, rfl, st_move rfl rfl (Slot.fr (free_slot rfl) rfl)⟩
    · exact ⟨_, rfl, rfl, rfl, st_nil rfl rfl (Slot.dep ⟨⟨13, .data⟩, by simp, rfl, rfl⟩ rfl)⟩
    · exact ⟨_, rfl, rfl, rfl, st_field2 rfl rfl (Slot.dep ⟨⟨14, .data⟩, by simp, rfl, rfl⟩ rfl)⟩
    · exact ⟨_, rfl, rfl, rfl, st_loadL rfl rfl (Slot.dep ⟨⟨15, .data⟩, by simp, rfl, rfl⟩ rfl) k2 hpn⟩
    · exact ⟨_, rfl, rfl, rfl, st_ix1 rfl rfl (Slot.dep ⟨⟨16, .data⟩, by simp, rfl, rfl⟩ rfl)⟩
    · exact ⟨_, rfl, rfl, rfl, st_call eS hN rfl rfl (Slot.dep ⟨⟨12, .data⟩, by simp, rfl, rfl⟩ rfl) (Slot.dep ⟨⟨17, .data⟩, by simp, rfl, rfl⟩ rfl) HSc⟩
    · exact ⟨_, rfl, rfl, rfl, st_row2 hN rfl rfl (TSlot.dep ⟨⟨11, .data⟩, by simp, rfl, rfl⟩ rfl) (TSlot.dep ⟨⟨18, .data⟩, by simp, rfl, rfl⟩ rfl)⟩
    · exact ⟨_, rfl, rfl, rfl, st_part (by decide) hP rfl rfl (Slot.dep ⟨⟨0, .data⟩, by simp, rfl, rfl⟩ rfl) ((Slot.dep ⟨⟨4, .data⟩, by simp, rfl, rfl⟩ rfl)).opnd (LOpnd.dep ⟨⟨19, .data⟩, by simp, rfl, rfl⟩ rfl)⟩
    · exact ⟨_, rfl, rfl, rfl, st_store hP rfl rfl (Slot.fr (free_slot rfl) rfl) (TSlot.dep ⟨⟨20, .data⟩, by simp, rfl, rfl⟩ rfl)⟩
  case ok =>
    intro htot a1 w1 hdf hfr hmv hnr hst hfx
    obtain ⟨d0, d1, d2, hb, ho⟩ := hst (.mk 12 [] [(col true a).t, (col true c).t]) (by simp)
    have h4 : a1.tmps[4]? = some (.pointer (some ⟨w.heap.size, 0, none⟩)) := hfr 4 (free_slot rfl)
    refine hK2 _ _ ?_
    refine wp_ret ?_
    obtain ⟨qk, qs, qo, ql, qc, rfl, rfl, rfl⟩ := hb.2
    obtain ⟨p0, p1, p2, _, _, _⟩ := three hb.1
    have e : total [.fix 79 (.pointer (some ⟨nb, 0, none⟩)), .fix 80 (.pointer (some ⟨pb, po, none⟩)), .fix 81 (.pointer (some ⟨pb, po, none⟩)), .fix 82 (.pointer (some ⟨pb, po, none⟩)), .fix 83 (.int .i64 12), .fix 84 (.pointer (some ⟨nb, 0, none⟩)), .fix 85 (.pointer (some ⟨pb, po, none⟩)), .fix 86 (.pointer (some ⟨pb, po, none⟩)), .fix 87 (.pointer (some ⟨pb, po + 2, none⟩)), .fix 88 (.slice (some ⟨kb, kp, none⟩) 2 kcap), .fix 89 (.pointer (some ⟨kb, kp, none⟩)), .tree 90 (col true a).t (cnt true a), .fix 91 (.pointer (some ⟨nb, 0, none⟩)), .fix 92 (.pointer (some ⟨pb, po, none⟩)), .fix 93 (.pointer (some ⟨pb, po, none⟩)), .fix 94 (.pointer (some ⟨pb, po + 2, none⟩)), .fix 95 (.slice (some ⟨kb, kp, none⟩) 2 kcap), .fix 96 (.pointer (some ⟨kb, kp + 3, none⟩)), .tree 97 (col true c).t (cnt true c), .row 98 [(col true a).t, (col true c).t], .tree 99 (.mk 12 [] [(col true a).t, (col true c).t]) 1, .store (.mk 12 [] [(col true a).t, (col true c).t])] = cnt true (.b .til a c) := by simp [total, NO.cost, cnt] <;> omega
    rw [e] at htot hnr
    have hcol : (col true (.b .til a c)).t = (.mk 12 [] [(col true a).t, (col true c).t]) := by simp [col, F.t, Q.U.kind, Q.B.kind, opp]
    refine bodyPost_ret (v := .agg #[.int .i64 qk, .string qs, .slice qo ql qc]) (by simp [results, Tryd.results34, go_sem, h4, p0, p1, p2]) (by rw [hdf]) ?_
    rw [hcol]
    exact norm_end HM1.out hmv htot hnr rfl ho
  case die =>
    intro htot a1 w1 hdf hmv
    have e : total [.fix 79 (.pointer (some ⟨nb, 0, none⟩)), .fix 80 (.pointer (some ⟨pb, po, none⟩)), .fix 81 (.pointer (some ⟨pb, po, none⟩)), .fix 82 (.pointer (some ⟨pb, po, none⟩)), .fix 83 (.int .i64 12), .fix 84 (.pointer (some ⟨nb, 0, none⟩)), .fix 85 (.pointer (some ⟨pb, po, none⟩)), .fix 86 (.pointer (some ⟨pb, po, none⟩)), .fix 87 (.pointer (some ⟨pb, po + 2, none⟩)), .fix 88 (.slice (some ⟨kb, kp, none⟩) 2 kcap), .fix 89 (.pointer (some ⟨kb, kp, none⟩)), .tree 90 (col true a).t (cnt true a), .fix 91 (.pointer (some ⟨nb, 0, none⟩)), .fix 92 (.pointer (some ⟨pb, po, none⟩)), .fix 93 (.pointer (some ⟨pb, po, none⟩)), .fix 94 (.pointer (some ⟨pb, po + 2, none⟩)), .fix 95 (.slice (some ⟨kb, kp, none⟩) 2 kcap), .fix 96 (.pointer (some ⟨kb, kp + 3, none⟩)), .tree 97 (col true c).t (cnt true c), .row 98 [(col true a).t, (col true c).t], .tree 99 (.mk 12 [] [(col true a).t, (col true c).t]) 1, .store (.mk 12 [] [(col true a).t, (col true c).t])] = cnt true (.b .til a c) := by simp [total, NO.cost, cnt] <;> omega
    rw [e] at htot
    exact ⟨hdf, NPost.no ((HM1.out.mono (T := (· = nb)) (fun _ h => h.elim)).trans hmv (fun x hx => by rcases hx with h | h; exact .inl h; exact .inr (by omega))) htot⟩

end Go.Proofs.YtidihaecgmbhpabDoor
/-
  What says gives: rel.
-/
set_option linter.unusedSimpArgs false
set_option linter.unusedVariables false
namespace Go.Proofs.YtidihaecgmbhpabDoor
open Go.RowKit Q

set_option maxRecDepth 100000 in
set_option maxHeartbeats 8000000 in
theorem says_rel {a c : F} (hSa : SaysP a) (hSc : SaysP c) : NormP 34 true (.b .rel a c) := fun w B nb m pb po hB h hn => by
  have k0 : w.cell? ⟨pb, po, none⟩ = some (.int .i64 13) := h.kind.1
  obtain ⟨kb, kp, kcap, k2, hfa, hfc⟩ := h.kidB
  have hlt : nb < w.heap.size := lt_of_block hn.blk
  have hpn : pb ≠ nb ∧ pb ≠ w.heap.size := ⟨h.ne, by have := h.lt; omega⟩
  have HPN := hid hpn
  have hM1 : Nu w (w.alloc (.cells #[.int .i64 0, .string ⟨#[]⟩, .slice none 0 0] 24)) := Mv.alloc _ _ _
  have hb1 := heap_alloc_new w (.cells #[.int .i64 0, .string ⟨#[]⟩, .slice none 0 0] 24)
  have hs1 : (w.alloc (.cells #[.int .i64 0, .string ⟨#[]⟩, .slice none 0 0] 24)).heap.size = w.heap.size + 1 := by simp
  have HN := hid hn
  have HB := hid hB
  have HFa := hid hfa
  have HFc := hid hfc
  generalize hW : w.alloc (.cells #[.int .i64 0, .string ⟨#[]⟩, .slice none 0 0] 24) = W at hM1 hb1 hs1
  have HW := hid hW
  have HM1 := hid hM1
  have HB1 := hid hb1
  have HS1 := hid hs1
  clear h hn hB hfa hfc hM1 hb1 hs1 hpn hW
  go_enter Tryd.func34, Tryd.ntmps34
  go_upto_region 1 with fail
  rw [HW.out]
  replace k0 := cell_mv HM1.out k0 id
  replace k2 := cell_mv HM1.out k2 id
  go_upto_region 16 with fail
  rename_i K1 hK1 K2 hK2
  have hpn := HPN.out
  have hs1 := HS1.out
  have hP : ∀ x, w.heap.size < x → x ≠ nb ∧ x ≠ w.heap.size := fun x hx => by omega
  have hN : ∀ x, W.heap.size ≤ x → w.heap.size < x := fun x hx => by omega
  have hS : ∀ x, (x = nb ∨ x = w.heap.size) → x = nb ∨ B ≤ x := fun x hx => by have := HB.out; omega
  have HSa : ∀ w1 m1, Mv (fun x => x = nb ∨ x = w.heap.size) W w1 → NrIs w1 nb m1 → Calls Tryd.prog 34 #[.pointer (some ⟨nb, 0, none⟩), .pointer (some ⟨kb, kp, none⟩)] w1 (NPost w1 nb m1 (cnt true a) (fun v w' => OwnT w1.heap.size w' v (col true a).t)) := fun w1 m1 hm1 hn1 =>
    hSa w1 B nb m1 kb (kp) (by have := hm1.size; have := HB.out; omega) ((HFa.out.mv HM1.out (fun _ h => h.elim)).mv hm1 hS) hn1
  have HSc : ∀ w1 m1, Mv (fun x => x = nb ∨ x = w.heap.size) W w1 → NrIs w1 nb m1 → Calls Tryd.prog 34 #[.pointer (some ⟨nb, 0, none⟩), .pointer (some ⟨kb, kp + 3, none⟩)] w1 (NPost w1 nb m1 (cnt true c) (fun v w' => OwnT w1.heap.size w' v (col true c).t)) := fun w1 m1 hm1 hn1 =>
    hSc w1 B nb m1 kb (kp + 3) (by have := hm1.size; have := HB.out; omega) ((HFc.out.mv HM1.out (fun _ h => h.elim)).mv hm1 hS) hn1
  have eS := enters_of Tryd.func34 (by kernel_rfl) rfl
  refine wp_made (plan := [.fix 79 (.pointer (some ⟨nb, 0, none⟩)), .fix 80 (.pointer (some ⟨pb, po, none⟩)), .fix 81 (.pointer (some ⟨pb, po, none⟩)), .fix 82 (.pointer (some ⟨pb, po, none⟩)), .fix 83 (.int .i64 13), .fix 84 (.pointer (some ⟨nb, 0, none⟩)), .fix 85 (.pointer (some ⟨pb, po, none⟩)), .fix 86 (.pointer (some ⟨pb, po, none⟩)), .fix 87 (.pointer (some ⟨pb, po + 2, none⟩)), .fix 88 (.slice (some ⟨kb, kp, none⟩) 2 kcap), .fix 89 (.pointer (some ⟨kb, kp, none⟩)), .tree 90 (col true a).t (cnt true a), .fix 91 (.pointer (some ⟨nb, 0, none⟩)), .fix 92 (.pointer (some ⟨pb, po, none⟩)), .fix 93 (.pointer (some ⟨pb, po, none⟩)), .fix 94 (.pointer (some ⟨pb, po + 2, none⟩)), .fix 95 (.slice (some ⟨kb, kp, none⟩) 2 kcap), .fix 96 (.pointer (some ⟨kb, kp + 3, none⟩)), .tree 97 (col true c).t (cnt true c), .row 98 [(col true a).t, (col true c).t], .tree 99 (.mk 13 [] [(col true a).t, (col true c).t]) 1, .store (.mk 13 [] [(col true a).t, (col true c).t])]) (P0 := fun x => w.heap.size < x) (nb := nb) (rb := w.heap.size) (m := m) (by kernel_rfl) ?plan hP (by omega) (HN.out.nu HM1.out) ⟨_, _, _, HB1.out, _, _, _, _, _, rfl, rfl, rfl⟩ ?ok ?die
  case plan =>
    refine nplan_mk rfl rfl (fun i o ho => ?_)
    have hi : i < 22 := (Array.getElem?_eq_some_iff.1 ho).1
    have : i = 0 ∨ i = 1 ∨ i = 2 ∨ i = 3 ∨ i = 4 ∨ i = 5 ∨ i = 6 ∨ i = 7 ∨ i = 8 ∨ i = 9 ∨ i = 10 ∨ i = 11 ∨ i = 12 ∨ i = 13 ∨ i = 14 ∨ i = 15 ∨ i = 16 ∨ i = 17 ∨ i = 18 ∨ i = 19 ∨ i = 20 ∨ i = 21 := by omega
    rcases this with rfl | rfl | rfl | rfl | rfl | rfl | rfl | rfl | rfl | rfl | rfl | rfl | rfl | rfl | rfl | rfl | rfl | rfl | rfl | rfl | rfl | rfl <;> cases ho
    · exact ⟨_, rfl, rfl, rfl, st_move rfl rfl (Slot.fr (free_slot rfl) rfl)⟩
    · exact ⟨_, rfl, rfl, rfl, st_move rfl rfl (Slot.fr (free_slot rfl) rfl)⟩
    · exact ⟨_, rfl, rfl, rfl, st_nil rfl rfl (Slot.dep ⟨⟨1, .data⟩, by simp, rfl, rfl⟩ rfl)⟩
    · exact ⟨_, rfl, rfl, rfl, st_field0 rfl rfl (Slot.dep ⟨⟨2, .data⟩, by simp, rfl, rfl⟩ rfl)⟩
    · exact ⟨_, rfl, rfl, rfl, st_loadI rfl rfl (Slot.dep ⟨⟨3, .data⟩, by simp, rfl, rfl⟩ rfl) k0 hpn⟩
    · exact ⟨_, rfl, rfl, rfl, st_move rfl rfl (Slot.fr (free_slot rfl) rfl)⟩
    · exact ⟨_, rfl, rfl, rfl, st_move rfl rfl (Slot.fr (free_slot rfl) rfl)⟩
    · exact ⟨_, rfl, rfl, rfl, st_nil rfl rfl (Slot.dep ⟨⟨6, .data⟩, by simp, rfl, rfl⟩ rfl)⟩
    · exact ⟨_, rfl, rfl, rfl, st_field2 rfl rfl (Slot.dep ⟨⟨7, .data⟩, by simp, rfl, rfl⟩ rfl)⟩
    · exact ⟨_, rfl, rfl, rfl, st_loadL rfl rfl (Slot.dep ⟨⟨8, .data⟩, by simp, rfl, rfl⟩ rfl) k2 hpn⟩
    · exact ⟨_, rfl, rfl, rfl, st_ix0 rfl rfl (Slot.dep ⟨⟨9, .data⟩, by simp, rfl, rfl⟩ rfl)⟩
    · exact ⟨_, rfl, rfl, rfl, st_call eS hN rfl rfl (Slot.dep ⟨⟨5, .data⟩, by simp, rfl, rfl⟩ rfl) (Slot.dep ⟨⟨10, .data⟩, by simp, rfl, rfl⟩ rfl) HSa⟩
    · exact ⟨_, rfl, rfl, rfl, st_move rfl rfl (Slot.fr (free_slot rfl) rfl)⟩
    · exact ⟨_, rfl, rfl, rfl, st_move rfl rfl (Slot.fr (free_slot rfl) rfl)⟩
    · exact ⟨_, rfl, rfl, rfl, st_nil rfl rfl (Slot.dep ⟨⟨13, .data⟩, by simp, rfl, rfl⟩ rfl)⟩
    · exact ⟨_, rfl, rfl, rfl, st_field2 rfl rfl (Slot.dep ⟨⟨14, .data⟩, by simp, rfl, rfl⟩ rfl)⟩
    · exact ⟨_, rfl, rfl, rfl, st_loadL rfl rfl (Slot.dep ⟨⟨15, .data⟩, by simp, rfl, rfl⟩ rfl) k2 hpn⟩
    · exact ⟨_, rfl, rfl, rfl, st_ix1 rfl rfl (Slot.dep ⟨⟨16, .data⟩, by simp, rfl, rfl⟩ rfl)⟩
    · exact ⟨_, rfl, rfl, rfl, st_call eS hN rfl rfl (Slot.dep ⟨⟨12, .data⟩, by simp, rfl, rfl⟩ rfl) (Slot.dep ⟨⟨17, .data⟩, by simp, rfl, rfl⟩ rfl) HSc⟩
    · exact ⟨_, rfl, rfl, rfl, st_row2 hN rfl rfl (TSlot.dep ⟨⟨11, .data⟩, by simp, rfl, rfl⟩ rfl) (TSlot.dep ⟨⟨18, .data⟩, by simp, rfl, rfl⟩ rfl)⟩
    · exact ⟨_, rfl, rfl, rfl, st_part (by decide) hP rfl rfl (Slot.dep ⟨⟨0, .data⟩, by simp, rfl, rfl⟩ rfl) ((Slot.dep ⟨⟨4, .data⟩, by simp, rfl, rfl⟩ rfl)).opnd (LOpnd.dep ⟨⟨19, .data⟩, by simp, rfl, rfl⟩ rfl)⟩
    · exact ⟨_, rfl, rfl, rfl, st_store hP rfl rfl (Slot.fr (free_slot rfl) rfl) (TSlot.dep ⟨⟨20, .data⟩, by simp, rfl, rfl⟩ rfl)⟩
  case ok =>
    intro htot a1 w1 hdf hfr hmv hnr hst hfx
    obtain ⟨d0, d1, d2, hb, ho⟩ := hst (.mk 13 [] [(col true a).t, (col true c).t]) (by simp)
    have h4 : a1.tmps[4]? = some (.pointer (some ⟨w.heap.size, 0, none⟩)) := hfr 4 (free_slot rfl)
    refine hK2 _ _ ?_
    refine wp_ret ?_
    obtain ⟨qk, qs, qo, ql, qc, rfl, rfl, rfl⟩ := hb.2
    obtain ⟨p0, p1, p2, _, _, _⟩ := three hb.1
    have e : total [.fix 79 (.pointer (some ⟨nb, 0, none⟩)), .fix 80 (.pointer (some ⟨pb, po, none⟩)), .fix 81 (.pointer (some ⟨pb, po, none⟩)), .fix 82 (.pointer (some ⟨pb, po, none⟩)), .fix 83 (.int .i64 13), .fix 84 (.pointer (some ⟨nb, 0, none⟩)), .fix 85 (.pointer (some ⟨pb, po, none⟩)), .fix 86 (.pointer (some ⟨pb, po, none⟩)), .fix 87 (.pointer (some ⟨pb, po + 2, none⟩)), .fix 88 (.slice (some ⟨kb, kp, none⟩) 2 kcap), .fix 89 (.pointer (some ⟨kb, kp, none⟩)), .tree 90 (col true a).t (cnt true a), .fix 91 (.pointer (some ⟨nb, 0, none⟩)), .fix 92 (.pointer (some ⟨pb, po, none⟩)), .fix 93 (.pointer (some ⟨pb, po, none⟩)), .fix 94 (.pointer (some ⟨pb, po + 2, none⟩)), .fix 95 (.slice (some ⟨kb, kp, none⟩) 2 kcap), .fix 96 (.pointer (some ⟨kb, kp + 3, none⟩)), .tree 97 (col true c).t (cnt true c), .row 98 [(col true a).t, (col true c).t], .tree 99 (.mk 13 [] [(col true a).t, (col true c).t]) 1, .store (.mk 13 [] [(col true a).t, (col true c).t])] = cnt true (.b .rel a c) := by simp [total, NO.cost, cnt] <;> omega
    rw [e] at htot hnr
    have hcol : (col true (.b .rel a c)).t = (.mk 13 [] [(col true a).t, (col true c).t]) := by simp [col, F.t, Q.U.kind, Q.B.kind, opp]
    refine bodyPost_ret (v := .agg #[.int .i64 qk, .string qs, .slice qo ql qc]) (by simp [results, Tryd.results34, go_sem, h4, p0, p1, p2]) (by rw [hdf]) ?_
    rw [hcol]
    exact norm_end HM1.out hmv htot hnr rfl ho
  case die =>
    intro htot a1 w1 hdf hmv
    have e : total [.fix 79 (.pointer (some ⟨nb, 0, none⟩)), .fix 80 (.pointer (some ⟨pb, po, none⟩)), .fix 81 (.pointer (some ⟨pb, po, none⟩)), .fix 82 (.pointer (some ⟨pb, po, none⟩)), .fix 83 (.int .i64 13), .fix 84 (.pointer (some ⟨nb, 0, none⟩)), .fix 85 (.pointer (some ⟨pb, po, none⟩)), .fix 86 (.pointer (some ⟨pb, po, none⟩)), .fix 87 (.pointer (some ⟨pb, po + 2, none⟩)), .fix 88 (.slice (some ⟨kb, kp, none⟩) 2 kcap), .fix 89 (.pointer (some ⟨kb, kp, none⟩)), .tree 90 (col true a).t (cnt true a), .fix 91 (.pointer (some ⟨nb, 0, none⟩)), .fix 92 (.pointer (some ⟨pb, po, none⟩)), .fix 93 (.pointer (some ⟨pb, po, none⟩)), .fix 94 (.pointer (some ⟨pb, po + 2, none⟩)), .fix 95 (.slice (some ⟨kb, kp, none⟩) 2 kcap), .fix 96 (.pointer (some ⟨kb, kp + 3, none⟩)), .tree 97 (col true c).t (cnt true c), .row 98 [(col true a).t, (col true c).t], .tree 99 (.mk 13 [] [(col true a).t, (col true c).t]) 1, .store (.mk 13 [] [(col true a).t, (col true c).t])] = cnt true (.b .rel a c) := by simp [total, NO.cost, cnt] <;> omega
    rw [e] at htot
    exact ⟨hdf, NPost.no ((HM1.out.mono (T := (· = nb)) (fun _ h => h.elim)).trans hmv (fun x hx => by rcases hx with h | h; exact .inl h; exact .inr (by omega))) htot⟩

end Go.Proofs.YtidihaecgmbhpabDoor
/-
  What says gives: weak.
-/
set_option linter.unusedSimpArgs false
set_option linter.unusedVariables false
namespace Go.Proofs.YtidihaecgmbhpabDoor
open Go.RowKit Q

set_option maxRecDepth 100000 in
set_option maxHeartbeats 8000000 in
theorem says_weak {a c : F} (hSa : SaysP a) (hSc : SaysP c) : NormP 34 true (.b .weak a c) := fun w B nb m pb po hB h hn => by
  have k0 : w.cell? ⟨pb, po, none⟩ = some (.int .i64 14) := h.kind.1
  obtain ⟨kb, kp, kcap, k2, hfa, hfc⟩ := h.kidB
  have hlt : nb < w.heap.size := lt_of_block hn.blk
  have hpn : pb ≠ nb ∧ pb ≠ w.heap.size := ⟨h.ne, by have := h.lt; omega⟩
  have HPN := hid hpn
  have hM1 : Nu w (w.alloc (.cells #[.int .i64 0, .string ⟨#[]⟩, .slice none 0 0] 24)) := Mv.alloc _ _ _
  have hb1 := heap_alloc_new w (.cells #[.int .i64 0, .string ⟨#[]⟩, .slice none 0 0] 24)
  have hs1 : (w.alloc (.cells #[.int .i64 0, .string ⟨#[]⟩, .slice none 0 0] 24)).heap.size = w.heap.size + 1 := by simp
  have HN := hid hn
  have HB := hid hB
  have HFa := hid hfa
  have HFc := hid hfc
  generalize hW : w.alloc (.cells #[.int .i64 0, .string ⟨#[]⟩, .slice none 0 0] 24) = W at hM1 hb1 hs1
  have HW := hid hW
  have HM1 := hid hM1
  have HB1 := hid hb1
  have HS1 := hid hs1
  clear h hn hB hfa hfc hM1 hb1 hs1 hpn hW
  go_enter Tryd.func34, Tryd.ntmps34
  go_upto_region 1 with fail
  rw [HW.out]
  replace k0 := cell_mv HM1.out k0 id
  replace k2 := cell_mv HM1.out k2 id
  go_upto_region 23 with fail
  go_quiet (fail)
  have hM2 := mv0 HM1.out (Mv.drewN (fun _ => False) W nq)
  have hb2 := (Mv.drewN (fun _ => False) W nq).heap HB1.out id
  have hs2 : (W.drewN nq).heap.size = w.heap.size + 1 := HS1.out
  clear HM1 HB1 HS1 HW k0 k2
  generalize hW2 : World.drewN _ _ = W2 at hM2 hb2 hs2 ⊢
  clear hW2
  have HM1 := hid hM2
  have HB1 := hid hb2
  have HS1 := hid hs2
  clear hM2 hb2 hs2
  go_upto_region 24 with fail
  rename_i K1 hK1 K2 hK2
  have hpn := HPN.out
  have hs1 := HS1.out
  have hP : ∀ x, w.heap.size < x → x ≠ nb ∧ x ≠ w.heap.size := fun x hx => by omega
  have hN : ∀ x, W2.heap.size ≤ x → w.heap.size < x := fun x hx => by omega
  have hS : ∀ x, (x = nb ∨ x = w.heap.size) → x = nb ∨ B ≤ x := fun x hx => by have := HB.out; omega
  have HSa : ∀ w1 m1, Mv (fun x => x = nb ∨ x = w.heap.size) W2 w1 → NrIs w1 nb m1 → Calls Tryd.prog 34 #[.pointer (some ⟨nb, 0, none⟩), .pointer (some ⟨kb, kp, none⟩)] w1 (NPost w1 nb m1 (cnt true a) (fun v w' => OwnT w1.heap.size w' v (col true a).t)) := fun w1 m1 hm1 hn1 =>
    hSa w1 B nb m1 kb (kp) (by have := hm1.size; have := HB.out; omega) ((HFa.out.mv HM1.out (fun _ h => h.elim)).mv hm1 hS) hn1
  have HSc : ∀ w1 m1, Mv (fun x => x = nb ∨ x = w.heap.size) W2 w1 → NrIs w1 nb m1 → Calls Tryd.prog 34 #[.pointer (some ⟨nb, 0, none⟩), .pointer (some ⟨kb, kp + 3, none⟩)] w1 (NPost w1 nb m1 (cnt true c) (fun v w' => OwnT w1.heap.size w' v (col true c).t)) := fun w1 m1 hm1 hn1 =>
    hSc w1 B nb m1 kb (kp + 3) (by have := hm1.size; have := HB.out; omega) ((HFc.out.mv HM1.out (fun _ h => h.elim)).mv hm1 hS) hn1
  have eS := enters_of Tryd.func34 (by kernel_rfl) rfl
  refine wp_made_in (plan := [.fix 164 (.pointer (some ⟨nb, 0, none⟩)), .fix 165 (.pointer (some ⟨nb, 0, none⟩)), .fix 166 (.pointer (some ⟨kb, kp + 3, none⟩)), .tree 167 (col true c).t (cnt true c), .fix 168 (.pointer (some ⟨nb, 0, none⟩)), .fix 169 (.pointer (some ⟨nb, 0, none⟩)), .fix 170 (.pointer (some ⟨kb, kp, none⟩)), .tree 171 (col true a).t (cnt true a), .fix 172 (.pointer (some ⟨nb, 0, none⟩)), .fix 173 (.pointer (some ⟨kb, kp + 3, none⟩)), .tree 174 (col true c).t (cnt true c), .row 175 [(col true a).t, (col true c).t], .tree 176 (.mk 9 [] [(col true a).t, (col true c).t]) 1, .row 177 [(col true c).t, (.mk 9 [] [(col true a).t, (col true c).t])], .tree 178 (.mk 13 [] [(col true c).t, (.mk 9 [] [(col true a).t, (col true c).t])]) 1, .store (.mk 13 [] [(col true c).t, (.mk 9 [] [(col true a).t, (col true c).t])])]) (P0 := fun x => w.heap.size < x) (nb := nb) (rb := w.heap.size) (m := m) ?plan hP (by omega) (HN.out.nu HM1.out) ⟨_, _, _, HB1.out, _, _, _, _, _, rfl, rfl, rfl⟩ ?ok ?die
  case plan =>
    refine nplan_mk rfl rfl (fun i o ho => ?_)
    have hi : i < 16 := (Array.getElem?_eq_some_iff.1 ho).1
    have : i = 0 ∨ i = 1 ∨ i = 2 ∨ i = 3 ∨ i = 4 ∨ i = 5 ∨ i = 6 ∨ i = 7 ∨ i = 8 ∨ i = 9 ∨ i = 10 ∨ i = 11 ∨ i = 12 ∨ i = 13 ∨ i = 14 ∨ i = 15 := by omega
    rcases this with rfl | rfl | rfl | rfl | rfl | rfl | rfl | rfl | rfl | rfl | rfl | rfl | rfl | rfl | rfl | rfl <;> cases ho
    · exact ⟨_, rfl, rfl, rfl, st_move rfl rfl (Slot.fr (free_slot rfl) rfl)⟩
    · exact ⟨_, rfl, rfl, rfl, st_move rfl rfl (Slot.fr (free_slot rfl) rfl)⟩
    · exact ⟨_, rfl, rfl, rfl, st_move rfl rfl (Slot.fr (free_slot rfl) rfl)⟩
    · exact ⟨_, rfl, rfl, rfl, st_call eS hN rfl rfl (Slot.dep ⟨⟨1, .data⟩, by simp, rfl, rfl⟩ rfl) (Slot.dep ⟨⟨2, .data⟩, by simp, rfl, rfl⟩ rfl) HSc⟩
    · exact ⟨_, rfl, rfl, rfl, st_move rfl rfl (Slot.fr (free_slot rfl) rfl)⟩
    · exact ⟨_, rfl, rfl, rfl, st_move rfl rfl (Slot.fr (free_slot rfl) rfl)⟩
    · exact ⟨_, rfl, rfl, rfl, st_move rfl rfl (Slot.fr (free_slot rfl) rfl)⟩
    · exact ⟨_, rfl, rfl, rfl, st_call eS hN rfl rfl (Slot.dep ⟨⟨5, .data⟩, by simp, rfl, rfl⟩ rfl) (Slot.dep ⟨⟨6, .data⟩, by simp, rfl, rfl⟩ rfl) HSa⟩
    · exact ⟨_, rfl, rfl, rfl, st_move rfl rfl (Slot.fr (free_slot rfl) rfl)⟩
    · exact ⟨_, rfl, rfl, rfl, st_move rfl rfl (Slot.fr (free_slot rfl) rfl)⟩
    · exact ⟨_, rfl, rfl, rfl, st_call eS hN rfl rfl (Slot.dep ⟨⟨8, .data⟩, by simp, rfl, rfl⟩ rfl) (Slot.dep ⟨⟨9, .data⟩, by simp, rfl, rfl⟩ rfl) HSc⟩
    · exact ⟨_, rfl, rfl, rfl, st_row2 hN rfl rfl (TSlot.dep ⟨⟨7, .data⟩, by simp, rfl, rfl⟩ rfl) (TSlot.dep ⟨⟨10, .data⟩, by simp, rfl, rfl⟩ rfl)⟩
    · exact ⟨_, rfl, rfl, rfl, st_part (by decide) hP rfl rfl (Slot.dep ⟨⟨4, .data⟩, by simp, rfl, rfl⟩ rfl) Opnd.const (LOpnd.dep ⟨⟨11, .data⟩, by simp, rfl, rfl⟩ rfl)⟩
    · exact ⟨_, rfl, rfl, rfl, st_row2 hN rfl rfl (TSlot.dep ⟨⟨3, .data⟩, by simp, rfl, rfl⟩ rfl) (TSlot.dep ⟨⟨12, .data⟩, by simp, rfl, rfl⟩ rfl)⟩
    · exact ⟨_, rfl, rfl, rfl, st_part (by decide) hP rfl rfl (Slot.dep ⟨⟨0, .data⟩, by simp, rfl, rfl⟩ rfl) Opnd.const (LOpnd.dep ⟨⟨13, .data⟩, by simp, rfl, rfl⟩ rfl)⟩
    · exact ⟨_, rfl, rfl, rfl, st_store hP rfl rfl (Slot.fr (free_slot rfl) rfl) (TSlot.dep ⟨⟨14, .data⟩, by simp, rfl, rfl⟩ rfl)⟩
  case ok =>
    intro htot a1 w1 hdf hfr hmv hnr hst hfx
    obtain ⟨d0, d1, d2, hb, ho⟩ := hst (.mk 13 [] [(col true c).t, (.mk 9 [] [(col true a).t, (col true c).t])]) (by simp)
    have h4 : a1.tmps[4]? = some (.pointer (some ⟨w.heap.size, 0, none⟩)) := hfr 4 (free_slot rfl)
    refine hK2 _ _ ?_
    refine wp_ret ?_
    obtain ⟨qk, qs, qo, ql, qc, rfl, rfl, rfl⟩ := hb.2
    obtain ⟨p0, p1, p2, _, _, _⟩ := three hb.1
    have e : total [.fix 164 (.pointer (some ⟨nb, 0, none⟩)), .fix 165 (.pointer (some ⟨nb, 0, none⟩)), .fix 166 (.pointer (some ⟨kb, kp + 3, none⟩)), .tree 167 (col true c).t (cnt true c), .fix 168 (.pointer (some ⟨nb, 0, none⟩)), .fix 169 (.pointer (some ⟨nb, 0, none⟩)), .fix 170 (.pointer (some ⟨kb, kp, none⟩)), .tree 171 (col true a).t (cnt true a), .fix 172 (.pointer (some ⟨nb, 0, none⟩)), .fix 173 (.pointer (some ⟨kb, kp + 3, none⟩)), .tree 174 (col true c).t (cnt true c), .row 175 [(col true a).t, (col true c).t], .tree 176 (.mk 9 [] [(col true a).t, (col true c).t]) 1, .row 177 [(col true c).t, (.mk 9 [] [(col true a).t, (col true c).t])], .tree 178 (.mk 13 [] [(col true c).t, (.mk 9 [] [(col true a).t, (col true c).t])]) 1, .store (.mk 13 [] [(col true c).t, (.mk 9 [] [(col true a).t, (col true c).t])])] = cnt true (.b .weak a c) := by simp [total, NO.cost, cnt] <;> omega
    rw [e] at htot hnr
    have hcol : (col true (.b .weak a c)).t = (.mk 13 [] [(col true c).t, (.mk 9 [] [(col true a).t, (col true c).t])]) := by simp [col, F.t, Q.U.kind, Q.B.kind, opp]
    refine bodyPost_ret (v := .agg #[.int .i64 qk, .string qs, .slice qo ql qc]) (by simp [results, Tryd.results34, go_sem, h4, p0, p1, p2]) (by rw [hdf]) ?_
    rw [hcol]
    exact norm_end HM1.out hmv htot hnr rfl ho
  case die =>
    intro htot a1 w1 hdf hmv
    have e : total [.fix 164 (.pointer (some ⟨nb, 0, none⟩)), .fix 165 (.pointer (some ⟨nb, 0, none⟩)), .fix 166 (.pointer (some ⟨kb, kp + 3, none⟩)), .tree 167 (col true c).t (cnt true c), .fix 168 (.pointer (some ⟨nb, 0, none⟩)), .fix 169 (.pointer (some ⟨nb, 0, none⟩)), .fix 170 (.pointer (some ⟨kb, kp, none⟩)), .tree 171 (col true a).t (cnt true a), .fix 172 (.pointer (some ⟨nb, 0, none⟩)), .fix 173 (.pointer (some ⟨kb, kp + 3, none⟩)), .tree 174 (col true c).t (cnt true c), .row 175 [(col true a).t, (col true c).t], .tree 176 (.mk 9 [] [(col true a).t, (col true c).t]) 1, .row 177 [(col true c).t, (.mk 9 [] [(col true a).t, (col true c).t])], .tree 178 (.mk 13 [] [(col true c).t, (.mk 9 [] [(col true a).t, (col true c).t])]) 1, .store (.mk 13 [] [(col true c).t, (.mk 9 [] [(col true a).t, (col true c).t])])] = cnt true (.b .weak a c) := by simp [total, NO.cost, cnt] <;> omega
    rw [e] at htot
    exact ⟨hdf, NPost.no ((HM1.out.mono (T := (· = nb)) (fun _ h => h.elim)).trans hmv (fun x hx => by rcases hx with h | h; exact .inl h; exact .inr (by omega))) htot⟩

end Go.Proofs.YtidihaecgmbhpabDoor
/-
  What denies gives: tt.
-/
set_option linter.unusedSimpArgs false
set_option linter.unusedVariables false
namespace Go.Proofs.YtidihaecgmbhpabDoor
open Go.RowKit Q

set_option maxRecDepth 100000 in
set_option maxHeartbeats 8000000 in
theorem denies_tt : NormP 54 false .tt := fun w B nb m pb po hB h hn => by
  have k0 : w.cell? ⟨pb, po, none⟩ = some (.int .i64 1) := h.kind.1
  have hlt : nb < w.heap.size := lt_of_block hn.blk
  have hpn : pb ≠ nb ∧ pb ≠ w.heap.size := ⟨h.ne, by have := h.lt; omega⟩
  have HPN := hid hpn
  have hM1 : Nu w (w.alloc (.cells #[.int .i64 0, .string ⟨#[]⟩, .slice none 0 0] 24)) := Mv.alloc _ _ _
  have hb1 := heap_alloc_new w (.cells #[.int .i64 0, .string ⟨#[]⟩, .slice none 0 0] 24)
  have hs1 : (w.alloc (.cells #[.int .i64 0, .string ⟨#[]⟩, .slice none 0 0] 24)).heap.size = w.heap.size + 1 := by simp
  have HN := hid hn
  have HB := hid hB
  generalize hW : w.alloc (.cells #[.int .i64 0, .string ⟨#[]⟩, .slice none 0 0] 24) = W at hM1 hb1 hs1
  have HW := hid hW
  have HM1 := hid hM1
  have HB1 := hid hb1
  have HS1 := hid hs1
  clear h hn hB hM1 hb1 hs1 hpn hW
  go_enter Tryd.func54, Tryd.ntmps54
  go_upto_region 1 with fail
  rw [HW.out]
  replace k0 := cell_mv HM1.out k0 id
  go_upto_region 25 with fail
  rename_i K2 hK2
  have hpn := HPN.out
  have hs1 := HS1.out
  have hP : ∀ x, w.heap.size < x → x ≠ nb ∧ x ≠ w.heap.size := fun x hx => by omega
  have hN : ∀ x, W.heap.size ≤ x → w.heap.size < x := fun x hx => by omega
  have hS : ∀ x, (x = nb ∨ x = w.heap.size) → x = nb ∨ B ≤ x := fun x hx => by have := HB.out; omega
  refine wp_made_in (plan := [.fix 183 (.pointer (some ⟨nb, 0, none⟩)), .fix 184 (.pointer (some ⟨pb, po, none⟩)), .fix 185 (.pointer (some ⟨pb, po, none⟩)), .fix 186 (.pointer (some ⟨pb, po, none⟩)), .fix 187 (.int .i64 1), .fix 188 (.int .i64 (opp 1)), .tree 189 (.mk (opp 1) [] []) 1, .store (.mk (opp 1) [] [])]) (P0 := fun x => w.heap.size < x) (nb := nb) (rb := w.heap.size) (m := m) ?plan hP (by omega) (HN.out.nu HM1.out) ⟨_, _, _, HB1.out, _, _, _, _, _, rfl, rfl, rfl⟩ ?ok ?die
  case plan =>
    refine nplan_mk rfl rfl (fun i o ho => ?_)
    have hi : i < 8 := (Array.getElem?_eq_some_iff.1 ho).1
    have : i = 0 ∨ i = 1 ∨ i = 2 ∨ i = 3 ∨ i = 4 ∨ i = 5 ∨ i = 6 ∨ i = 7 := by omega
    rcases this with rfl | rfl | rfl | rfl | rfl | rfl | rfl | rfl <;> cases ho
    · exact ⟨_, rfl, rfl, rfl, st_move rfl rfl (Slot.fr (free_slot rfl) rfl)⟩
    · exact ⟨_, rfl, rfl, rfl, st_move rfl rfl (Slot.fr (free_slot rfl) rfl)⟩
    · exact ⟨_, rfl, rfl, rfl, st_nil rfl rfl (Slot.dep ⟨⟨1, .data⟩, by simp, rfl, rfl⟩ rfl)⟩
    · exact ⟨_, rfl, rfl, rfl, st_field0 rfl rfl (Slot.dep ⟨⟨2, .data⟩, by simp, rfl, rfl⟩ rfl)⟩
    · exact ⟨_, rfl, rfl, rfl, st_loadI rfl rfl (Slot.dep ⟨⟨3, .data⟩, by simp, rfl, rfl⟩ rfl) k0 hpn⟩
    · exact ⟨_, rfl, rfl, rfl, st_opp rfl rfl (Slot.dep ⟨⟨4, .data⟩, by simp, rfl, rfl⟩ rfl)⟩
    · exact ⟨_, rfl, rfl, rfl, st_part (by decide) hP rfl rfl (Slot.dep ⟨⟨0, .data⟩, by simp, rfl, rfl⟩ rfl) ((Slot.dep ⟨⟨5, .data⟩, by simp, rfl, rfl⟩ rfl)).opnd LOpnd.nil⟩
    · exact ⟨_, rfl, rfl, rfl, st_store hP rfl rfl (Slot.fr (free_slot rfl) rfl) (TSlot.dep ⟨⟨6, .data⟩, by simp, rfl, rfl⟩ rfl)⟩
  case ok =>
    intro htot a1 w1 hdf hfr hmv hnr hst hfx
    obtain ⟨d0, d1, d2, hb, ho⟩ := hst (.mk (opp 1) [] []) (by simp)
    have h4 : a1.tmps[4]? = some (.pointer (some ⟨w.heap.size, 0, none⟩)) := hfr 4 (free_slot rfl)
    refine hK2 _ _ ?_
    refine wp_ret ?_
    obtain ⟨qk, qs, qo, ql, qc, rfl, rfl, rfl⟩ := hb.2
    obtain ⟨p0, p1, p2, _, _, _⟩ := three hb.1
    have e : total [.fix 183 (.pointer (some ⟨nb, 0, none⟩)), .fix 184 (.pointer (some ⟨pb, po, none⟩)), .fix 185 (.pointer (some ⟨pb, po, none⟩)), .fix 186 (.pointer (some ⟨pb, po, none⟩)), .fix 187 (.int .i64 1), .fix 188 (.int .i64 (opp 1)), .tree 189 (.mk (opp 1) [] []) 1, .store (.mk (opp 1) [] [])] = cnt false .tt := by simp [total, NO.cost, cnt] <;> omega
    rw [e] at htot hnr
    have hcol : (col false .tt).t = (.mk (opp 1) [] []) := by simp [col, F.t, Q.U.kind, Q.B.kind, opp]
    refine bodyPost_ret (v := .agg #[.int .i64 qk, .string qs, .slice qo ql qc]) (by simp [results, Tryd.results54, go_sem, h4, p0, p1, p2]) (by rw [hdf]) ?_
    rw [hcol]
    exact norm_end HM1.out hmv htot hnr rfl ho
  case die =>
    intro htot a1 w1 hdf hmv
    have e : total [.fix 183 (.pointer (some ⟨nb, 0, none⟩)), .fix 184 (.pointer (some ⟨pb, po, none⟩)), .fix 185 (.pointer (some ⟨pb, po, none⟩)), .fix 186 (.pointer (some ⟨pb, po, none⟩)), .fix 187 (.int .i64 1), .fix 188 (.int .i64 (opp 1)), .tree 189 (.mk (opp 1) [] []) 1, .store (.mk (opp 1) [] [])] = cnt false .tt := by simp [total, NO.cost, cnt] <;> omega
    rw [e] at htot
    exact ⟨hdf, NPost.no ((HM1.out.mono (T := (· = nb)) (fun _ h => h.elim)).trans hmv (fun x hx => by rcases hx with h | h; exact .inl h; exact .inr (by omega))) htot⟩

end Go.Proofs.YtidihaecgmbhpabDoor
/-
  What denies gives: ff.
-/
set_option linter.unusedSimpArgs false
set_option linter.unusedVariables false
namespace Go.Proofs.YtidihaecgmbhpabDoor
open Go.RowKit Q

set_option maxRecDepth 100000 in
set_option maxHeartbeats 8000000 in
theorem denies_ff : NormP 54 false .ff := fun w B nb m pb po hB h hn => by
  have k0 : w.cell? ⟨pb, po, none⟩ = some (.int .i64 2) := h.kind.1
  have hlt : nb < w.heap.size := lt_of_block hn.blk
  have hpn : pb ≠ nb ∧ pb ≠ w.heap.size := ⟨h.ne, by have := h.lt; omega⟩
  have HPN := hid hpn
  have hM1 : Nu w (w.alloc (.cells #[.int .i64 0, .string ⟨#[]⟩, .slice none 0 0] 24)) := Mv.alloc _ _ _
  have hb1 := heap_alloc_new w (.cells #[.int .i64 0, .string ⟨#[]⟩, .slice none 0 0] 24)
  have hs1 : (w.alloc (.cells #[.int .i64 0, .string ⟨#[]⟩, .slice none 0 0] 24)).heap.size = w.heap.size + 1 := by simp
  have HN := hid hn
  have HB := hid hB
  generalize hW : w.alloc (.cells #[.int .i64 0, .string ⟨#[]⟩, .slice none 0 0] 24) = W at hM1 hb1 hs1
  have HW := hid hW
  have HM1 := hid hM1
  have HB1 := hid hb1
  have HS1 := hid hs1
  clear h hn hB hM1 hb1 hs1 hpn hW
  go_enter Tryd.func54, Tryd.ntmps54
  go_upto_region 1 with fail
  rw [HW.out]
  replace k0 := cell_mv HM1.out k0 id
  go_upto_region 25 with fail
  rename_i K2 hK2
  have hpn := HPN.out
  have hs1 := HS1.out
  have hP : ∀ x, w.heap.size < x → x ≠ nb ∧ x ≠ w.heap.size := fun x hx => by omega
  have hN : ∀ x, W.heap.size ≤ x → w.heap.size < x := fun x hx => by omega
  have hS : ∀ x, (x = nb ∨ x = w.heap.size) → x = nb ∨ B ≤ x := fun x hx => by have := HB.out; omega
  refine wp_made_in (plan := [.fix 183 (.pointer (some ⟨nb, 0, none⟩)), .fix 184 (.pointer (some ⟨pb, po, none⟩)), .fix 185 (.pointer (some ⟨pb, po, none⟩)), .fix 186 (.pointer (some ⟨pb, po, none⟩)), .fix 187 (.int .i64 2), .fix 188 (.int .i64 (opp 2)), .tree 189 (.mk (opp 2) [] []) 1, .store (.mk (opp 2) [] [])]) (P0 := fun x => w.heap.size < x) (nb := nb) (rb := w.heap.size) (m := m) ?plan hP (by omega) (HN.out.nu HM1.out) ⟨_, _, _, HB1.out, _, _, _, _, _, rfl, rfl, rfl⟩ ?ok ?die
  case plan =>
    refine nplan_mk rfl rfl (fun i o ho => ?_)
    have hi : i < 8 := (Array.getElem?_eq_some_iff.1 ho).1
    have : i = 0 ∨ i = 1 ∨ i = 2 ∨ i = 3 ∨ i = 4 ∨ i = 5 ∨ i = 6 ∨ i = 7 := by omega
    rcases this with rfl | rfl | rfl | rfl | rfl | rfl | rfl | rfl <;> cases ho
    · exact ⟨_, rfl, rfl, rfl, st_move rfl rfl (Slot.fr (free_slot rfl) rfl)⟩
    · exact ⟨_, rfl, rfl, rfl, st_move rfl rfl (Slot.fr (free_slot rfl) rfl)⟩
    · exact ⟨_, rfl, rfl, rfl, st_nil rfl rfl (Slot.dep ⟨⟨1, .data⟩, by simp, rfl, rfl⟩ rfl)⟩
    · exact ⟨_, rfl, rfl, rfl, st_field0 rfl rfl (Slot.dep ⟨⟨2, .data⟩, by simp, rfl, rfl⟩ rfl)⟩
    · exact ⟨_, rfl, rfl, rfl, st_loadI rfl rfl (Slot.dep ⟨⟨3, .data⟩, by simp, rfl, rfl⟩ rfl) k0 hpn⟩
    · exact ⟨_, rfl, rfl, rfl, st_opp rfl rfl (Slot.dep ⟨⟨4, .data⟩, by simp, rfl, rfl⟩ rfl)⟩
    · exact ⟨_, rfl, rfl, rfl, st_part (by decide) hP rfl rfl (Slot.dep ⟨⟨0, .data⟩, by simp, rfl, rfl⟩ rfl) ((Slot.dep ⟨⟨5, .data⟩, by simp, rfl, rfl⟩ rfl)).opnd LOpnd.nil⟩
    · exact ⟨_, rfl, rfl, rfl, st_store hP rfl rfl (Slot.fr (free_slot rfl) rfl) (TSlot.dep ⟨⟨6, .data⟩, by simp, rfl, rfl⟩ rfl)⟩
  case ok =>
    intro htot a1 w1 hdf hfr hmv hnr hst hfx
    obtain ⟨d0, d1, d2, hb, ho⟩ := hst (.mk (opp 2) [] []) (by simp)
    have h4 : a1.tmps[4]? = some (.pointer (some ⟨w.heap.size, 0, none⟩)) := hfr 4 (free_slot rfl)
    refine hK2 _ _ ?_
    refine wp_ret ?_
    obtain ⟨qk, qs, qo, ql, qc, rfl, rfl, rfl⟩ := hb.2
    obtain ⟨p0, p1, p2, _, _, _⟩ := three hb.1
    have e : total [.fix 183 (.pointer (some ⟨nb, 0, none⟩)), .fix 184 (.pointer (some ⟨pb, po, none⟩)), .fix 185 (.pointer (some ⟨pb, po, none⟩)), .fix 186 (.pointer (some ⟨pb, po, none⟩)), .fix 187 (.int .i64 2), .fix 188 (.int .i64 (opp 2)), .tree 189 (.mk (opp 2) [] []) 1, .store (.mk (opp 2) [] [])] = cnt false .ff := by simp [total, NO.cost, cnt] <;> omega
    rw [e] at htot hnr
    have hcol : (col false .ff).t = (.mk (opp 2) [] []) := by simp [col, F.t, Q.U.kind, Q.B.kind, opp]
    refine bodyPost_ret (v := .agg #[.int .i64 qk, .string qs, .slice qo ql qc]) (by simp [results, Tryd.results54, go_sem, h4, p0, p1, p2]) (by rw [hdf]) ?_
    rw [hcol]
    exact norm_end HM1.out hmv htot hnr rfl ho
  case die =>
    intro htot a1 w1 hdf hmv
    have e : total [.fix 183 (.pointer (some ⟨nb, 0, none⟩)), .fix 184 (.pointer (some ⟨pb, po, none⟩)), .fix 185 (.pointer (some ⟨pb, po, none⟩)), .fix 186 (.pointer (some ⟨pb, po, none⟩)), .fix 187 (.int .i64 2), .fix 188 (.int .i64 (opp 2)), .tree 189 (.mk (opp 2) [] []) 1, .store (.mk (opp 2) [] [])] = cnt false .ff := by simp [total, NO.cost, cnt] <;> omega
    rw [e] at htot
    exact ⟨hdf, NPost.no ((HM1.out.mono (T := (· = nb)) (fun _ h => h.elim)).trans hmv (fun x hx => by rcases hx with h | h; exact .inl h; exact .inr (by omega))) htot⟩

end Go.Proofs.YtidihaecgmbhpabDoor
/-
  What denies gives: pr.
-/
set_option linter.unusedSimpArgs false
set_option linter.unusedVariables false
namespace Go.Proofs.YtidihaecgmbhpabDoor
open Go.RowKit Q

set_option maxRecDepth 100000 in
set_option maxHeartbeats 8000000 in
theorem denies_pr {s : Wd} (hs : s.length ≤ 140737488355328) : NormP 54 false (.pr s) := fun w B nb m pb po hB h hn => by
  have k0 : w.cell? ⟨pb, po, none⟩ = some (.int .i64 3) := h.kind.1
  have k1 : w.cell? ⟨pb, po + 1, none⟩ = some (.string (strOfL s)) := h.kind.2
  have hlt : nb < w.heap.size := lt_of_block hn.blk
  have hpn : pb ≠ nb ∧ pb ≠ w.heap.size := ⟨h.ne, by have := h.lt; omega⟩
  have HPN := hid hpn
  have hM1 : Nu w (w.alloc (.cells #[.int .i64 0, .string ⟨#[]⟩, .slice none 0 0] 24)) := Mv.alloc _ _ _
  have hb1 := heap_alloc_new w (.cells #[.int .i64 0, .string ⟨#[]⟩, .slice none 0 0] 24)
  have hs1 : (w.alloc (.cells #[.int .i64 0, .string ⟨#[]⟩, .slice none 0 0] 24)).heap.size = w.heap.size + 1 := by simp
  have HN := hid hn
  have HB := hid hB
  generalize hW : w.alloc (.cells #[.int .i64 0, .string ⟨#[]⟩, .slice none 0 0] 24) = W at hM1 hb1 hs1
  have HW := hid hW
  have HM1 := hid hM1
  have HB1 := hid hb1
  have HS1 := hid hs1
  clear h hn hB hM1 hb1 hs1 hpn hW
  go_enter Tryd.func54, Tryd.ntmps54
  go_upto_region 1 with fail
  rw [HW.out]
  replace k0 := cell_mv HM1.out k0 id
  replace k1 := cell_mv HM1.out k1 id
  go_upto_region 3 with fail
  rename_i K1 hK1 K2 hK2
  have hpn := HPN.out
  have hs1 := HS1.out
  have hP : ∀ x, w.heap.size < x → x ≠ nb ∧ x ≠ w.heap.size := fun x hx => by omega
  have hN : ∀ x, W.heap.size ≤ x → w.heap.size < x := fun x hx => by omega
  have hS : ∀ x, (x = nb ∨ x = w.heap.size) → x = nb ∨ B ≤ x := fun x hx => by have := HB.out; omega
  have eN := enters_of Tryd.func53 (by kernel_rfl) rfl
  have HNm : ∀ w1 m1, Mv (fun x => x = nb ∨ x = w.heap.size) W w1 → NrIs w1 nb m1 → Calls Tryd.prog 53 #[.pointer (some ⟨nb, 0, none⟩), .string (strOfL s)] w1 (NPost w1 nb m1 1 (fun v w' => OwnT w1.heap.size w' v (.mk 3 s []))) := fun w1 m1 hm1 hn1 => by
    refine Calls.mono (name_any' w1 nb m1 hn1 (strOfL s)) ?_
    rintro e w2 ⟨hm2, ⟨g1, g2, v, rfl, rfl⟩ | ⟨g1, rfl⟩⟩
    · exact NPost.ok hm2 g1 g2 (OwnT.leaf _ _ 3 s (by decide) hs)
    · exact NPost.no hm2 g1
  refine wp_made_in (plan := [.fix 15 (.pointer (some ⟨nb, 0, none⟩)), .fix 16 (.pointer (some ⟨nb, 0, none⟩)), .fix 17 (.pointer (some ⟨pb, po, none⟩)), .fix 18 (.pointer (some ⟨pb, po, none⟩)), .fix 19 (.pointer (some ⟨pb, po + 1, none⟩)), .fix 20 (.string (strOfL s)), .tree 21 (.mk 3 s []) 1, .row 22 [(.mk 3 s [])], .tree 23 (.mk 4 [] [(.mk 3 s [])]) 1, .store (.mk 4 [] [(.mk 3 s [])])]) (P0 := fun x => w.heap.size < x) (nb := nb) (rb := w.heap.size) (m := m) ?plan hP (by omega) (HN.out.nu HM1.out) ⟨_, _, _, HB1.out, _, _, _, _, _, rfl, rfl, rfl⟩ ?ok ?die
  case plan =>
    refine nplan_mk rfl rfl (fun i o ho => ?_)
    have hi : i < 10 := (Array.getElem?_eq_some_iff.1 ho).1
    have : i = 0 ∨ i = 1 ∨ i = 2 ∨ i = 3 ∨ i = 4 ∨ i = 5 ∨ i = 6 ∨ i = 7 ∨ i = 8 ∨ i = 9 := by omega
    rcases this with rfl | rfl | rfl | rfl | rfl | rfl | rfl | rfl | rfl | rfl <;> cases ho
    · exact ⟨_, rfl, rfl, rfl, st_move rfl rfl (Slot.fr (free_slot rfl) rfl)⟩
    · exact ⟨_, rfl, rfl, rfl, st_move rfl rfl (Slot.fr (free_slot rfl) rfl)⟩
    · exact ⟨_, rfl, rfl, rfl, st_move rfl rfl (Slot.fr (free_slot rfl) rfl)⟩
    · exact ⟨_, rfl, rfl, rfl, st_nil rfl rfl (Slot.dep ⟨⟨2, .data⟩, by simp, rfl, rfl⟩ rfl)⟩
    · exact ⟨_, rfl, rfl, rfl, st_field1 rfl rfl (Slot.dep ⟨⟨3, .data⟩, by simp, rfl, rfl⟩ rfl)⟩
    · exact ⟨_, rfl, rfl, rfl, st_loadS rfl rfl (Slot.dep ⟨⟨4, .data⟩, by simp, rfl, rfl⟩ rfl) k1 hpn⟩
    · exact ⟨_, rfl, rfl, rfl, st_call eN hN rfl rfl (Slot.dep ⟨⟨1, .data⟩, by simp, rfl, rfl⟩ rfl) (Slot.dep ⟨⟨5, .data⟩, by simp, rfl, rfl⟩ rfl) HNm⟩
    · exact ⟨_, rfl, rfl, rfl, st_row1 hN rfl rfl (TSlot.dep ⟨⟨6, .data⟩, by simp, rfl, rfl⟩ rfl)⟩
    · exact ⟨_, rfl, rfl, rfl, st_part (by decide) hP rfl rfl (Slot.dep ⟨⟨0, .data⟩, by simp, rfl, rfl⟩ rfl) Opnd.const (LOpnd.dep ⟨⟨7, .data⟩, by simp, rfl, rfl⟩ rfl)⟩
    · exact ⟨_, rfl, rfl, rfl, st_store hP rfl rfl (Slot.fr (free_slot rfl) rfl) (TSlot.dep ⟨⟨8, .data⟩, by simp, rfl, rfl⟩ rfl)⟩
  case ok =>
    intro htot a1 w1 hdf hfr hmv hnr hst hfx
    obtain ⟨d0, d1, d2, hb, ho⟩ := hst (.mk 4 [] [(.mk 3 s [])]) (by simp)
    have h4 : a1.tmps[4]? = some (.pointer (some ⟨w.heap.size, 0, none⟩)) := hfr 4 (free_slot rfl)
    refine hK2 _ _ ?_
    refine wp_ret ?_
    obtain ⟨qk, qs, qo, ql, qc, rfl, rfl, rfl⟩ := hb.2
    obtain ⟨p0, p1, p2, _, _, _⟩ := three hb.1
    have e : total [.fix 15 (.pointer (some ⟨nb, 0, none⟩)), .fix 16 (.pointer (some ⟨nb, 0, none⟩)), .fix 17 (.pointer (some ⟨pb, po, none⟩)), .fix 18 (.pointer (some ⟨pb, po, none⟩)), .fix 19 (.pointer (some ⟨pb, po + 1, none⟩)), .fix 20 (.string (strOfL s)), .tree 21 (.mk 3 s []) 1, .row 22 [(.mk 3 s [])], .tree 23 (.mk 4 [] [(.mk 3 s [])]) 1, .store (.mk 4 [] [(.mk 3 s [])])] = cnt false (.pr s) := by simp [total, NO.cost, cnt] <;> omega
    rw [e] at htot hnr
    have hcol : (col false (.pr s)).t = (.mk 4 [] [(.mk 3 s [])]) := by simp [col, F.t, Q.U.kind, Q.B.kind, opp]
    refine bodyPost_ret (v := .agg #[.int .i64 qk, .string qs, .slice qo ql qc]) (by simp [results, Tryd.results54, go_sem, h4, p0, p1, p2]) (by rw [hdf]) ?_
    rw [hcol]
    exact norm_end HM1.out hmv htot hnr rfl ho
  case die =>
    intro htot a1 w1 hdf hmv
    have e : total [.fix 15 (.pointer (some ⟨nb, 0, none⟩)), .fix 16 (.pointer (some ⟨nb, 0, none⟩)), .fix 17 (.pointer (some ⟨pb, po, none⟩)), .fix 18 (.pointer (some ⟨pb, po, none⟩)), .fix 19 (.pointer (some ⟨pb, po + 1, none⟩)), .fix 20 (.string (strOfL s)), .tree 21 (.mk 3 s []) 1, .row 22 [(.mk 3 s [])], .tree 23 (.mk 4 [] [(.mk 3 s [])]) 1, .store (.mk 4 [] [(.mk 3 s [])])] = cnt false (.pr s) := by simp [total, NO.cost, cnt] <;> omega
    rw [e] at htot
    exact ⟨hdf, NPost.no ((HM1.out.mono (T := (· = nb)) (fun _ h => h.elim)).trans hmv (fun x hx => by rcases hx with h | h; exact .inl h; exact .inr (by omega))) htot⟩

end Go.Proofs.YtidihaecgmbhpabDoor
