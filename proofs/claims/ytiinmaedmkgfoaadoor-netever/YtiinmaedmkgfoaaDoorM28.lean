/-
  NKnown.
-/
import Derived.Deep.Cut
import Derived.Test.YtiinmaedmkgfoaaDoorM14
import Derived.Test.YtiinmaedmkgfoaaDoorM15
import Derived.Test.YtiinmaedmkgfoaaDoorM26
/-
  The example is explored as itself: what the statements' known answers, over the contracts of the program's functions.
-/
set_option linter.unusedSimpArgs false
namespace Go.Proofs.YtiinmaedmkgfoaaDoor
open Go.RowKit

theorem mem_movsOf {l : List Arc} {m : Mov} (h : m ∈ movsOf l) : ∃ k a, a ∈ l ∧ m = movOf k a := by
  obtain ⟨i, hi, rfl⟩ := List.mem_iff_getElem.1 h
  have hl : i < l.length := by simpa [movsOf] using hi
  exact ⟨i, l[i], List.getElem_mem hl, by simp [movsOf]⟩

theorem graph_fine (ns : List Node) (h : ns.length ≤ 20000) (hm : mayN ns = true) : (graphSem ns).Fine := by
  refine ⟨Nat.le_trans (encU_short 0 (by decide)) (by decide), fun st m hm' => ?_⟩
  have hall : ∀ x ∈ ns, ∀ a ∈ x.arcs, arcB ns.length a = true := by
    unfold mayN at hm
    simp only [Bool.and_eq_true, List.all_eq_true] at hm
    exact hm.2
  simp only [graphSem] at hm'
  split at hm'
  · rename_i x hx
    obtain ⟨k, hk, hx⟩ := Option.bind_eq_some_iff.1 hx
    obtain ⟨i, a, ha, rfl⟩ := mem_movsOf hm'
    have ha := hall x (List.mem_of_getElem? hx) a ha
    unfold arcB at ha
    simp only [Bool.and_eq_true, decide_eq_true_eq] at ha
    simp only [movOf]
    split
    · exact Nat.le_trans (encU_short _ (by omega)) (by decide)
    · exact Nat.zero_le _
  · cases hm'

theorem hid {p : Prop} (h : p) : Hid p := h

/-- What the operations of known's last region hold. -/
def KR (na : Option Addr) (nc sb so sc : Nat) : Nat → World → Value → Prop
  | 0, _, v => v = .int .i64 0
  | 1, _, v => v = .bool true
  | 2, _, v => v = .bool true
  | 3, _, v => v = .int .i64 131
  | 4, _, v => v = .bool true
  | 5, _, v => v = .bool true
  | 6, _, v => v = .bool true
  | 7, _, v => v = .agg #[.slice na 2 nc]
  | 8, w, v => ∃ ao cap, v = .agg #[.slice ao 2 cap] ∧ NodesAt w w.heap.size ao twoNet
  | 9, _, v => v = .bool true
  | 10, _, v => v = .bool true
  | 11, _, v => v = .bool true
  | 12, _, v => v = .slice (some ⟨sb, so, none⟩) 2 sc
  | 13, _, v => v = .int .i64 2
  | 14, _, v => v = .bool true
  | 15, _, v => v = .bool true
  | 16, _, v => v = .bool true
  | 17, _, v => v = .slice (some ⟨sb, so, none⟩) 2 sc
  | 18, _, v => v = .pointer (some ⟨sb, so + 1, none⟩)
  | 19, _, v => v = .string ⟨#[1]⟩
  | 20, _, v => v = .bool true
  | 21, _, v => v = .bool true
  | 22, _, v => v = .bool true
  | 23, w, v => ∃ ao cap, v = .agg #[.slice ao 2 cap] ∧ NodesAt w w.heap.size ao twoNet
  | 24, _, v => v = .int .i64 0
  | 25, _, v => v = .bool true
  | 26, _, v => v = .bool true
  | 27, _, v => v = .bool true
  | 28, _, v => v = .agg #[.slice none 0 0, .slice none 0 0, .slice none 0 0]
  | 29, _, v => v = .int .i64 0
  | 30, _, v => v = .bool true
  | 31, _, v => v = .bool true
  | 32, _, v => v = .bool true
  | _, _, v => v = .bool true
theorem KR.nu {na : Option Addr} {nc sb so sc : Nat} : ∀ (i : Nat) (w w' : World) (v : Value), Nu w w' → KR na nc sb so sc i w v → KR na nc sb so sc i w' v := by
  intro i w w' v hn h
  unfold KR at h ⊢
  split <;> simp only at h <;> first
    | exact h
    | (obtain ⟨ao, cap, hv, ht⟩ := h; exact ⟨ao, cap, hv, ht.below hn.nu_below hn.size⟩)

section
variable {o : Oper} {a : Act} {w : World} {K : Act → World → Prop} {Q : Exit → Act → World → Prop} {d : Nat}

theorem lk_eqlIc {s : Nat} {x : Int} {ty : TypeId} (ht : ty = 3 ∨ ty = 29) (hd : o.dst = some d) (ho : o.op = .binOp .eql ty (.tmp s) (.const (.int .i64 x)) ty) (hs : a.tmps[s]? = some (.int .i64 x)) (hK : ∀ w', Nu w w' → K ⟨a.tmps.setIfInBounds d (.bool true), a.defers⟩ w') : Oper.wp Tryd.prog o a w K Q := by
  have he : a.eval (.tmp s) = .int .i64 x := by simp [Act.eval, hs]
  unfold Oper.wp execOp
  rcases ht with rfl | rfl <;> (simp only [ho, hd]; go_simp; exact hK w (Mv.refl _ _))

theorem lk_loadNet {s g : Nat} {v : Value} (hd : o.dst = some d) (ho : o.op = .load 46 (.tmp s)) (hs : a.tmps[s]? = some (.pointer (some ⟨g, 0, none⟩))) (h0 : w.cell? ⟨g, 0, none⟩ = some v) (hK : ∀ w', Nu w w' → K ⟨a.tmps.setIfInBounds d (.agg #[v]), a.defers⟩ w') : Oper.wp Tryd.prog o a w K Q := by
  have he : a.eval (.tmp s) = .pointer (some ⟨g, 0, none⟩) := by simp [Act.eval, hs]
  unfold Oper.wp execOp
  simp only [ho, he, hd]
  go_simp
  exact hK w (Mv.refl _ _)

theorem lk_two (hd : o.dst = some d) (ho : o.op = .call { callee := .value (.func 22), args := #[], argTypes := #[] }) (hK : ∀ w' ao cap, Nu w w' → NodesAt w' w'.heap.size ao twoNet → K ⟨a.tmps.setIfInBounds d (.agg #[.slice ao 2 cap]), a.defers⟩ w') : Oper.wp Tryd.prog o a w K Q := by
  unfold Oper.wp execOp
  simp only [ho, hd]
  go_simp
  refine (two_any w).mono ?_
  rintro e w' ⟨ao, cap, rfl, hn, hm⟩
  exact hK w' ao cap hm hn

theorem lk_nets {s r : Nat} {u v x : Value} (hd : o.dst = some d) (ho : o.op = .call { callee := .value (.func 23), args := #[.tmp s, .tmp r], argTypes := #[46, 46] }) (hs : a.tmps[s]? = some u) (hr : a.tmps[r]? = some v)
    (hc : Calls Tryd.prog 23 #[u, v] w fun e w' => e = .returned x ∧ Nu w w') (hK : ∀ w', Nu w w' → K ⟨a.tmps.setIfInBounds d x, a.defers⟩ w') : Oper.wp Tryd.prog o a w K Q := by
  have hes : a.eval (.tmp s) = u := by simp [Act.eval, hs]
  have her : a.eval (.tmp r) = v := by simp [Act.eval, hr]
  unfold Oper.wp execOp
  simp only [ho, hd]
  go_simp
  refine hc.mono ?_
  rintro e w' ⟨rfl, hm⟩
  exact hK w' hm

theorem lk_check {s : Nat} {u x : Value} (hd : o.dst = some d) (ho : o.op = .call { callee := .value (.func 24), args := #[.tmp s], argTypes := #[46] }) (hs : a.tmps[s]? = some u)
    (hc : Calls Tryd.prog 24 #[u] w fun e w' => e = .returned x ∧ Nu w w') (hK : ∀ w', Nu w w' → K ⟨a.tmps.setIfInBounds d x, a.defers⟩ w') : Oper.wp Tryd.prog o a w K Q := by
  have hes : a.eval (.tmp s) = u := by simp [Act.eval, hs]
  unfold Oper.wp execOp
  simp only [ho, hd]
  go_simp
  refine hc.mono ?_
  rintro e w' ⟨rfl, hm⟩
  exact hK w' hm

theorem lk_checkT {s : Nat} {u x : Value} (hd : o.dst = some d) (ho : o.op = .call { callee := .value (.func 8), args := #[.tmp s], argTypes := #[26] }) (hs : a.tmps[s]? = some u)
    (hc : Calls Tryd.prog 8 #[u] w fun e w' => e = .returned x ∧ Nu w w') (hK : ∀ w', Nu w w' → K ⟨a.tmps.setIfInBounds d x, a.defers⟩ w') : Oper.wp Tryd.prog o a w K Q := by
  have hes : a.eval (.tmp s) = u := by simp [Act.eval, hs]
  unfold Oper.wp execOp
  simp only [ho, hd]
  go_simp
  refine hc.mono ?_
  rintro e w' ⟨rfl, hm⟩
  exact hK w' hm

theorem lk_lenS {s : Nat} {ao : Option Addr} {l c : Nat} (hd : o.dst = some d) (ho : o.op = .call { callee := .builtin .len, args := #[.tmp s], argTypes := #[47] }) (hs : a.tmps[s]? = some (.slice ao l c)) (hK : ∀ w', Nu w w' → K ⟨a.tmps.setIfInBounds d (.int .i64 (l : Int)), a.defers⟩ w') : Oper.wp Tryd.prog o a w K Q := by
  have hes : a.eval (.tmp s) = .slice ao l c := by simp [Act.eval, hs]
  unfold Oper.wp execOp
  simp only [ho, hd]
  go_simp
  exact hK w (Mv.refl _ _)

theorem lk_idx1 {s b f c : Nat} (hd : o.dst = some d) (ho : o.op = .indexAddr 47 (.tmp s) (.const (.int .i64 1))) (hs : a.tmps[s]? = some (.slice (some ⟨b, f, none⟩) 2 c)) (hK : ∀ w', Nu w w' → K ⟨a.tmps.setIfInBounds d (.pointer (some ⟨b, f + 1, none⟩)), a.defers⟩ w') : Oper.wp Tryd.prog o a w K Q := by
  have hes : a.eval (.tmp s) = .slice (some ⟨b, f, none⟩) 2 c := by simp [Act.eval, hs]
  unfold Oper.wp execOp
  simp only [ho, hd]
  go_simp
  exact hK w (Mv.refl _ _)

theorem lk_loadStr {s b f : Nat} {v : Value} (hd : o.dst = some d) (ho : o.op = .load 9 (.tmp s)) (hs : a.tmps[s]? = some (.pointer (some ⟨b, f, none⟩))) (h0 : w.cell? ⟨b, f, none⟩ = some v) (hK : ∀ w', Nu w w' → K ⟨a.tmps.setIfInBounds d v, a.defers⟩ w') : Oper.wp Tryd.prog o a w K Q := by
  have he : a.eval (.tmp s) = .pointer (some ⟨b, f, none⟩) := by simp [Act.eval, hs]
  unfold Oper.wp execOp
  simp only [ho, he, hd]
  go_simp
  exact hK w (Mv.refl _ _)

theorem lk_eqlStr {s : Nat} {x : ByteArray} (hd : o.dst = some d) (ho : o.op = .binOp .eql 9 (.tmp s) (.const (.string x)) 9) (hs : a.tmps[s]? = some (.string x)) (hK : ∀ w', Nu w w' → K ⟨a.tmps.setIfInBounds d (.bool true), a.defers⟩ w') : Oper.wp Tryd.prog o a w K Q := by
  have he : a.eval (.tmp s) = .string x := by simp [Act.eval, hs]
  unfold Oper.wp execOp
  simp only [ho, hd]
  go_simp
  exact hK w (Mv.refl _ _)

theorem lk_build0 (hd : o.dst = some d) (ho : o.op = .build 26 #[]) (hK : ∀ w', Nu w w' → K ⟨a.tmps.setIfInBounds d (.agg #[.slice none 0 0, .slice none 0 0, .slice none 0 0]), a.defers⟩ w') : Oper.wp Tryd.prog o a w K Q := by
  unfold Oper.wp execOp
  simp only [ho, hd]
  go_simp
  exact hK w (Mv.refl _ _)

end

set_option maxHeartbeats 8000000 in
set_option maxRecDepth 40000 in
theorem known_any (HC : NCons) (w : World) : Calls Tryd.prog 9 #[] w fun e w' => e = .returned (.bool true) ∧ Nu w w' := by
  have HCH : Hid NCons := HC
  clear HC
  have hnil : ∀ (W : World) (T : TypeId) (r : Value), (binOp BinOp.eql 51 (.iface T r) .nilIface).run Tryd.prog W = .ok (.bool false) W := fun _ _ _ => by rfl
  go_enter Tryd.func9, Tryd.ntmps9
  go_wp2_with fail
  refine (two_any w).mono ?_
  rintro e w1 ⟨ao, cap, rfl, hn1, hnu1⟩
  have HN1 : Hid (NodesAt w1 w1.heap.size ao twoNet ∧ Nu w w1) := ⟨hn1, hnu1⟩
  clear hn1 hnu1
  go_wp2_with fail
  refine (HCH.out.of w1 ao cap twoNet HN1.out.1).mono ?_
  rintro e w2 ⟨hnu2, ⟨hno, _⟩ | ⟨_, F, T, r0, rfl, hsys, hF⟩⟩
  · rw [two_may] at hno; cases hno
  have HS2 : Hid (SysAt F w2 T r0 (graphSem twoNet) ∧ Nu w w2) := ⟨hsys, mv0 HN1.out.2 hnu2⟩
  clear hsys hnu2 hF HN1
  go_wp2_with fail
  refine (HCH.out.expl w2 F T r0 _ 2 HS2.out.1 (graph_fine _ (by decide) two_may) (by unfold I64; decide)).mono ?_
  rintro e w3 ⟨hnu3, na, nc, sa, sc, ns, ss, code, rfl, hns, hss, (⟨h, _⟩ | ⟨_, _, h, _⟩ | ⟨_, _, h, rfl⟩)⟩
  · omega
  · rw [show (2 : Int).toNat = 2 from rfl, two_explored2] at h; cases h
  rw [show (2 : Int).toNat = 2 from rfl, two_explored2] at h
  obtain ⟨rfl, rfl⟩ : twoNet = ns ∧ [nst 0, nst 1] = ss := by simpa using h
  have HS3 : Hid (SysAt F w3 T r0 (graphSem twoNet) ∧ Nu w w3) := ⟨HS2.out.1.nu hnu3, mv0 HS2.out.2 hnu3⟩
  have HR3 : Hid (NodesAt w3 w3.heap.size na twoNet ∧ StrsAt w3 w3.heap.size sa [nst 0, nst 1]) := ⟨hns, hss⟩
  have hl2 : twoNet.length = 2 := rfl
  have hl3 : [nst 0, nst 1].length = 2 := rfl
  rw [hl2, hl3]
  clear hns hss hnu3 HS2 h hl2 hl3
  go_upto_region 5 with fail
  have HN4 : Hid (Nu w3 (w3.alloc (.cells #[.slice na 2 nc] 46))) := Mv.alloc _ _ _
  have HB4 : Hid ((w3.alloc (.cells #[.slice na 2 nc] 46)).cell? ⟨w3.heap.size, 0, none⟩ = some (.slice na 2 nc)) := cell_blk (box_new w3 _ _) 0
  generalize w3.alloc (.cells #[.slice na 2 nc] 46) = w4 at *
  go_wp2_with fail
  refine (HCH.out.expl w4 F T r0 _ 1 (HS3.out.1.nu HN4.out) (graph_fine _ (by decide) two_may) (by unfold I64; decide)).mono ?_
  rintro e w5 ⟨hnu5, na5, nc5, sa5, sc5, ns5, ss5, code5, rfl, _, _, (⟨h, _⟩ | ⟨_, _, _, rfl, rfl, rfl⟩ | ⟨_, _, h, _⟩)⟩
  · omega
  · have HM5 : Hid (Nu w3 w5) := mv0 HN4.out hnu5
    have HB5 : Hid (w5.cell? ⟨w3.heap.size, 0, none⟩ = some (.slice na 2 nc)) := cell_mv hnu5 HB4.out id
    clear hnu5 HN4 HB4
    have hl0 : ([] : List Node).length = 0 := rfl
    have hl0' : ([] : List ByteArray).length = 0 := rfl
    rw [hl0, hl0']
    clear hl0 hl0'
    rcases HR3.out.2.row with h0 | ⟨sb, so, rfl, hsb, hsc⟩
    · simp at h0
    have hs1 : w3.cell? ⟨sb, so + 1, none⟩ = some (.string ⟨#[1]⟩) := by have := hsc 1 (by simp); simpa [nst_one] using this
    have HS1 : Hid (w3.cell? ⟨sb, so + 1, none⟩ = some (.string ⟨#[1]⟩)) := hs1
    clear hs1 hsc hsb
    go_upto_region 6 with fail
    have HM6 : Hid (Nu w3 (w5.alloc (.cells #[.slice na5 0 nc5] 46))) := mv0 HM5.out (Mv.alloc _ _ _)
    have cn : (w5.alloc (.cells #[.slice na5 0 nc5] 46)).cell? ⟨w3.heap.size, 0, none⟩ = some (.slice na 2 nc) := cell_mv (Mv.alloc (fun _ => False) _ _) HB5.out id
    have cs := cell_mv HM6.out HS1.out id
    generalize w5.alloc (.cells #[.slice na5 0 nc5] 46) = w6 at *
    clear HM5 HB5
    have HCK : Hid (∀ (W : World) ao cap, NodesAt W W.heap.size ao twoNet → Calls Tryd.prog 24 #[.agg #[.slice ao 2 cap]] W fun e w' => e = .returned (.int .i64 0) ∧ Nu W w') := fun W ao cap h => (HCH.out.check W ao cap twoNet h).mono (fun e w' he => by rw [two_may] at he; exact he)
    have HNE : Hid (∀ (W : World) ao bo cap dap, NodesAt W W.heap.size ao twoNet → NodesAt W W.heap.size bo twoNet → Calls Tryd.prog 23 #[.agg #[.slice ao 2 cap], .agg #[.slice bo 2 dap]] W fun e w' => e = .returned (.bool true) ∧ Nu W w') := fun W ao bo cap dap h h' => (rNets_any W twoNet twoNet h h' (Nat.le_refl _)).mono (fun e w' he => by rw [show decide (twoNet = twoNet) = true from decide_eq_true rfl] at he; exact he)
    have HT0 := HCH.out.checkT0
    have HCT : Hid _ := HT0
    have HNA : Hid (∀ W, Nu w3 W → NodesAt W W.heap.size na twoNet) := fun W h => HR3.out.1.below h.nu_below h.size
    have HFI : Hid (Nu w w3) := HS3.out.2
    clear HT0 HCH HS3 HR3 HS1
    rename_i KC hKC
    refine wp_lookR (KR na nc sb so sc) KR.nu (by kernel_rfl) (by kernel_rfl) ?step ?post
    case step =>
      intro i o d a w' ho hd hn hfr had K hK
      have hi : i < 33 := (Array.getElem?_eq_some_iff.1 ho).1
      have f3 := hfr 3 (by kernel_rfl)
      have f4 := hfr 4 (by kernel_rfl)
      have f5 := hfr 5 (by kernel_rfl)
      have f8 := hfr 8 (by kernel_rfl)
      have : i = 0 ∨ i = 1 ∨ i = 2 ∨ i = 3 ∨ i = 4 ∨ i = 5 ∨ i = 6 ∨ i = 7 ∨ i = 8 ∨ i = 9 ∨ i = 10 ∨ i = 11 ∨ i = 12 ∨ i = 13 ∨ i = 14 ∨ i = 15 ∨ i = 16 ∨ i = 17 ∨ i = 18 ∨ i = 19 ∨ i = 20 ∨ i = 21 ∨ i = 22 ∨ i = 23 ∨ i = 24 ∨ i = 25 ∨ i = 26 ∨ i = 27 ∨ i = 28 ∨ i = 29 ∨ i = 30 ∨ i = 31 ∨ i = 32 := by omega
      rcases this with rfl | rfl | rfl | rfl | rfl | rfl | rfl | rfl | rfl | rfl | rfl | rfl | rfl | rfl | rfl | rfl | rfl | rfl | rfl | rfl | rfl | rfl | rfl | rfl | rfl | rfl | rfl | rfl | rfl | rfl | rfl | rfl | rfl <;> cases ho <;> cases hd
      · exact ite_yes (want_none rfl) (lk_move rfl rfl f5 (fun w' hm => hK w' _ hm rfl))
      · obtain ⟨⟨_, h0, rfl⟩, _⟩ := had; exact ite_yes (want_none rfl) (lk_eqlIc (.inr rfl) rfl rfl h0 (fun w' hm => hK w' _ hm rfl))
      · obtain ⟨⟨_, h0, rfl⟩, _⟩ := had; exact ite_yes (want_none rfl) (lk_move rfl rfl h0 (fun w' hm => hK w' _ hm rfl))
      · obtain ⟨⟨_, h0, rfl⟩, _⟩ := had; exact ite_yes (want_some rfl rfl rfl h0) (lk_move rfl rfl f8 (fun w' hm => hK w' _ hm rfl))
      · obtain ⟨⟨_, h0, rfl⟩, ⟨_, h1, rfl⟩, _⟩ := had; exact ite_yes (want_some rfl rfl rfl h1) (lk_eqlIc (.inr rfl) rfl rfl h0 (fun w' hm => hK w' _ hm rfl))
      · obtain ⟨⟨_, h0, rfl⟩, ⟨_, h1, rfl⟩, _⟩ := had; exact ite_yes (want_none rfl) (lk_pickT rfl rfl h0 h1 (fun w' hm => hK w' _ hm rfl))
      · obtain ⟨⟨_, h0, rfl⟩, ⟨_, h1, rfl⟩, _⟩ := had; exact ite_yes (want_none rfl) (lk_move rfl rfl h0 (fun w' hm => hK w' _ hm rfl))
      · obtain ⟨⟨_, h0, rfl⟩, _⟩ := had; exact ite_yes (want_some rfl rfl rfl h0) (lk_loadNet rfl rfl f3 (cell_mv hn cn id) (fun w' hm => hK w' _ hm rfl))
      · obtain ⟨⟨_, h0, rfl⟩, ⟨_, h1, rfl⟩, _⟩ := had; exact ite_yes (want_some rfl rfl rfl h0) (lk_two rfl rfl (fun w' ao cap hm hn' => hK w' _ hm ⟨ao, cap, rfl, hn'⟩))
      · obtain ⟨⟨_, h0, rfl⟩, ⟨_, h1, at1, ct1, rfl, ht1⟩, ⟨_, h2, at2, ct2, rfl, ht2⟩, ⟨_, h3, rfl⟩, _⟩ := had; exact ite_yes (want_some rfl rfl rfl h3) (lk_nets rfl rfl h0 h1 (HNE.out _ _ _ _ _ (HNA.out _ (mv0 HM6.out hn)) ht1) (fun w' hm => hK w' _ hm rfl))
      · obtain ⟨⟨_, h0, rfl⟩, ⟨_, h1, rfl⟩, _⟩ := had; exact ite_yes (want_none rfl) (lk_pickT rfl rfl h0 h1 (fun w' hm => hK w' _ hm rfl))
      · obtain ⟨⟨_, h0, rfl⟩, ⟨_, h1, rfl⟩, _⟩ := had; exact ite_yes (want_none rfl) (lk_move rfl rfl h0 (fun w' hm => hK w' _ hm rfl))
      · obtain ⟨⟨_, h0, rfl⟩, _⟩ := had; exact ite_yes (want_some rfl rfl rfl h0) (lk_move rfl rfl f4 (fun w' hm => hK w' _ hm rfl))
      · obtain ⟨⟨_, h0, rfl⟩, ⟨_, h1, rfl⟩, _⟩ := had; exact ite_yes (want_some rfl rfl rfl h1) (lk_lenS rfl rfl h0 (fun w' hm => hK w' _ hm rfl))
      · obtain ⟨⟨_, h0, rfl⟩, ⟨_, h1, rfl⟩, _⟩ := had; exact ite_yes (want_some rfl rfl rfl h1) (lk_eqlIc (.inl rfl) rfl rfl h0 (fun w' hm => hK w' _ hm rfl))
      · obtain ⟨⟨_, h0, rfl⟩, ⟨_, h1, rfl⟩, _⟩ := had; exact ite_yes (want_none rfl) (lk_pickT rfl rfl h0 h1 (fun w' hm => hK w' _ hm rfl))
      · obtain ⟨⟨_, h0, rfl⟩, ⟨_, h1, rfl⟩, _⟩ := had; exact ite_yes (want_none rfl) (lk_move rfl rfl h0 (fun w' hm => hK w' _ hm rfl))
      · obtain ⟨⟨_, h0, rfl⟩, _⟩ := had; exact ite_yes (want_some rfl rfl rfl h0) (lk_move rfl rfl f4 (fun w' hm => hK w' _ hm rfl))
      · obtain ⟨⟨_, h0, rfl⟩, ⟨_, h1, rfl⟩, _⟩ := had; exact ite_yes (want_some rfl rfl rfl h1) (lk_idx1 rfl rfl h0 (fun w' hm => hK w' _ hm rfl))
      · obtain ⟨⟨_, h0, rfl⟩, ⟨_, h1, rfl⟩, _⟩ := had; exact ite_yes (want_some rfl rfl rfl h1) (lk_loadStr rfl rfl h0 (cell_mv hn cs id) (fun w' hm => hK w' _ hm rfl))
      · obtain ⟨⟨_, h0, rfl⟩, ⟨_, h1, rfl⟩, _⟩ := had; exact ite_yes (want_some rfl rfl rfl h1) (lk_eqlStr rfl rfl h0 (fun w' hm => hK w' _ hm rfl))
      · obtain ⟨⟨_, h0, rfl⟩, ⟨_, h1, rfl⟩, _⟩ := had; exact ite_yes (want_none rfl) (lk_pickT rfl rfl h0 h1 (fun w' hm => hK w' _ hm rfl))
      · obtain ⟨⟨_, h0, rfl⟩, ⟨_, h1, rfl⟩, _⟩ := had; exact ite_yes (want_none rfl) (lk_move rfl rfl h0 (fun w' hm => hK w' _ hm rfl))
      · obtain ⟨⟨_, h0, rfl⟩, ⟨_, h1, rfl⟩, _⟩ := had; exact ite_yes (want_some rfl rfl rfl h0) (lk_two rfl rfl (fun w' ao cap hm hn' => hK w' _ hm ⟨ao, cap, rfl, hn'⟩))
      · obtain ⟨⟨_, h0, at0, ct0, rfl, ht0⟩, ⟨_, h1, at1, ct1, rfl, ht1⟩, ⟨_, h2, rfl⟩, _⟩ := had; exact ite_yes (want_some rfl rfl rfl h2) (lk_check rfl rfl h0 (HCK.out _ _ _ ht0) (fun w' hm => hK w' _ hm rfl))
      · obtain ⟨⟨_, h0, rfl⟩, ⟨_, h1, rfl⟩, _⟩ := had; exact ite_yes (want_some rfl rfl rfl h1) (lk_eqlIc (.inr rfl) rfl rfl h0 (fun w' hm => hK w' _ hm rfl))
      · obtain ⟨⟨_, h0, rfl⟩, ⟨_, h1, rfl⟩, _⟩ := had; exact ite_yes (want_none rfl) (lk_pickT rfl rfl h0 h1 (fun w' hm => hK w' _ hm rfl))
      · obtain ⟨⟨_, h0, rfl⟩, ⟨_, h1, rfl⟩, _⟩ := had; exact ite_yes (want_none rfl) (lk_move rfl rfl h0 (fun w' hm => hK w' _ hm rfl))
      · obtain ⟨⟨_, h0, rfl⟩, _⟩ := had; exact ite_yes (want_some rfl rfl rfl h0) (lk_build0 rfl rfl (fun w' hm => hK w' _ hm rfl))
      · obtain ⟨⟨_, h0, rfl⟩, ⟨_, h1, rfl⟩, ⟨_, h2, rfl⟩, _⟩ := had; exact ite_yes (want_some rfl rfl rfl h1) (lk_checkT rfl rfl h0 (HCT.out _) (fun w' hm => hK w' _ hm rfl))
      · obtain ⟨⟨_, h0, rfl⟩, ⟨_, h1, rfl⟩, _⟩ := had; exact ite_yes (want_some rfl rfl rfl h1) (lk_eqlIc (.inr rfl) rfl rfl h0 (fun w' hm => hK w' _ hm rfl))
      · obtain ⟨⟨_, h0, rfl⟩, ⟨_, h1, rfl⟩, _⟩ := had; exact ite_yes (want_none rfl) (lk_pickT rfl rfl h0 h1 (fun w' hm => hK w' _ hm rfl))
      · obtain ⟨⟨_, h0, rfl⟩, _⟩ := had; exact ite_yes (want_none rfl) (lk_assign rfl rfl h0 (fun w' hm => hK w' _ hm rfl))
    case post =>
      intro a' w9 hn9 hdf _ _ htv
      obtain ⟨v, h8, rfl⟩ := htv 32 _ 0 rfl rfl
      refine hKC _ _ ?_
      refine wp_ret ?_
      refine bodyPost_ret (v := .bool true) (by simp [results, Tryd.results9, go_sem, h8]) (by rw [hdf]) ?_
      exact ⟨rfl, mv0 HFI.out (mv0 HM6.out hn9)⟩
  · rw [show (1 : Int).toNat = 1 from rfl, two_explored1] at h; cases h

end Go.Proofs.YtiinmaedmkgfoaaDoor
