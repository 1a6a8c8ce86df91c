/-
  A system explored: the program's Explore; all contracts together.
-/
import Derived.Test.YtlgljpbbooeanaaNAllW
set_option linter.unusedVariables false
set_option linter.unusedSimpArgs false
namespace Go.Proofs.Ytlgljpbbooeanaa
open Go.RowKit

set_option maxHeartbeats 2000000 in
theorem explN_any (w : World) (most : Int) : Calls Try.prog 16 #[.nilIface, .int .i64 most] w fun e w' => Nu w w' ∧ e = .returned (.tuple #[.agg #[.slice none 0 0], .slice none 0 0, .int .i64 1]) := by
  go_enter Try.func16, Try.ntmps16
  go_upto_region 1 with fail
  have HN1 : Hid (Nu w (w.alloc (.cells #[.slice none 0 0] 24))) := Mv.alloc _ _ _
  have HA1 : Hid ((w.alloc (.cells #[.slice none 0 0] 24)).heap[w.heap.size]? = some (.cells #[.slice none 0 0] 24 (0, 0))) := heap_alloc_new w _
  generalize w.alloc (.cells #[.slice none 0 0] 24) = w1 at *
  have q0 := cell_blk HA1.out 0
  have z0 := free_blk HA1.out 0
  simp only [List.size_toArray, List.length_cons, List.length_nil, Nat.reduceAdd, Nat.lt_add_one, Nat.reduceLT, getElem?_pos, List.getElem_toArray, List.getElem_cons_zero] at q0
  have hc := World.cell?_setCell_same' w1 ⟨w.heap.size, 0, none⟩ (.slice none 0 0) (by rw [q0]; rfl)
  go_wp2
  refine bodyPost_ret (v := .tuple #[.agg #[.slice none 0 0], .slice none 0 0, .int .i64 1]) (by simp [results, Try.results16, go_sem, hc]) rfl ⟨HN1.out.trans (Mv.setCell w1 ⟨w.heap.size, 0, none⟩ _) (fun x hx => .inr (by simp only at hx; omega)), rfl⟩

theorem WA.out {H : Nat} {w W' : World} {ns : List Node} {no : Option Addr} {nc : Nat} {nxs : List NX} (h : WA H w W' ns no nc nxs) (hl : ns.length ≤ 20000) {A : World} {S : Nat → Prop} (hm : Mv S W' A) (hS : ∀ b, S b → b < H) : NodesAt A A.heap.size no ns := by
  have h' : WA H w A ns no nc nxs := h.mv hm (fun k hk hs => by have := (row_blk h.row hk).1; have := hS k hs; omega) (fun b hb hs => by have := hb.1; have := hS b hs; omega)
  have hlx : nxs.length = ns.length := by rw [← h'.eq, List.length_map]
  have hr := h'.row
  rw [← hlx] at hr
  have := nodes_of_row (Z := Zt H A) hr (by omega) h'.nz (fun b hb => by obtain ⟨_, cs, t, hc, _⟩ := hb; exact lt_of_block hc)
  rwa [h'.eq] at this

set_option maxHeartbeats 4000000 in
set_option maxRecDepth 40000 in
theorem Explore_any (w : World) (F : Nat → Prop) (T : TypeId) (r0 : Value) (M : Sem) (most : Int) (hs : SysAt F w T r0 M) (hM : M.Fine) (hI : I64 most) : Calls Try.prog 16 #[.iface T r0, .int .i64 most] w (ExplOut w M most) := by
  have HS := hid hs
  have HM := hid hM
  clear hs hM hI
  go_enter Try.func16, Try.ntmps16
  go_upto_region 1 with fail
  have HN1 : Hid (Nu w (w.alloc (.cells #[.slice none 0 0] 24))) := Mv.alloc _ _ _
  have HA1 : Hid ((w.alloc (.cells #[.slice none 0 0] 24)).heap[w.heap.size]? = some (.cells #[.slice none 0 0] 24 (0, 0))) := heap_alloc_new w _
  have HZ1 : Hid ((w.alloc (.cells #[.slice none 0 0] 24)).heap.size = w.heap.size + 1) := World.size_alloc _ _
  generalize w.alloc (.cells #[.slice none 0 0] 24) = w1 at *
  have HARG : Hid (∀ A : World, Mv (fun b => w.heap.size + 1 ≤ b) w1 A → A.heap[w.heap.size]? = some (.cells #[.slice none 0 0] 24 (0, 0))) := fun A hA => hA.heap HA1.out (by omega)
  rcases Int.lt_or_le most 1 with h1 | h1
  · have q0 := cell_blk HA1.out 0
    have z0 := free_blk HA1.out 0
    simp only [List.size_toArray, List.length_cons, List.length_nil, Nat.reduceAdd, Nat.lt_add_one, Nat.reduceLT, getElem?_pos, List.getElem_toArray, List.getElem_cons_zero] at q0
    have hc := World.cell?_setCell_same' w1 ⟨w.heap.size, 0, none⟩ (.slice none 0 0) (by rw [q0]; rfl)
    have HLT := hid h1
    go_wp2
    refine bodyPost_ret (v := .tuple #[.agg #[.slice none 0 0], .slice none 0 0, .int .i64 1]) (by simp [results, Try.results16, go_sem, hc]) rfl ⟨HN1.out.trans (Mv.setCell w1 ⟨w.heap.size, 0, none⟩ _) (fun x hx => .inr (by simp only at hx; omega)), none, 0, none, 0, [], [], 1, rfl, NodesAt.nil _ _ _, StrsAt.nil _ _ _, .inl ⟨.inl HLT.out, rfl, rfl, rfl⟩⟩
  rcases Int.lt_or_le 20000 most with h2 | h2
  · have q0 := cell_blk HA1.out 0
    have z0 := free_blk HA1.out 0
    simp only [List.size_toArray, List.length_cons, List.length_nil, Nat.reduceAdd, Nat.lt_add_one, Nat.reduceLT, getElem?_pos, List.getElem_toArray, List.getElem_cons_zero] at q0
    have hc := World.cell?_setCell_same' w1 ⟨w.heap.size, 0, none⟩ (.slice none 0 0) (by rw [q0]; rfl)
    have HLT := hid h2
    go_wp2
    refine bodyPost_ret (v := .tuple #[.agg #[.slice none 0 0], .slice none 0 0, .int .i64 1]) (by simp [results, Try.results16, go_sem, hc]) rfl ⟨HN1.out.trans (Mv.setCell w1 ⟨w.heap.size, 0, none⟩ _) (fun x hx => .inr (by simp only at hx; omega)), none, 0, none, 0, [], [], 1, rfl, NodesAt.nil _ _ _, StrsAt.nil _ _ _, .inl ⟨.inr HLT.out, rfl, rfl, rfl⟩⟩
  have HMO := hid (And.intro h1 h2)
  have h1' : ¬ most < 1 := by omega
  have h2' : ¬ 20000 < most := by omega
  clear h1 h2
  have hmm := @run_makeMap Try.prog
  go_upto_region 4 with fail
  clear h1' h2' hmm
  obtain ⟨wa, hwa⟩ : ∃ wa, wa = w1.alloc (.map #[] 0) := ⟨_, rfl⟩
  obtain ⟨w2, hw2⟩ : ∃ w2, w2 = wa.alloc (.cells #[.iface T r0, .int .i64 most, .map (some w1.heap.size), .slice none 0 0, .int .i64 0] 78) := ⟨_, rfl⟩
  rw [← hwa, ← hw2]
  have hza : wa.heap.size = w1.heap.size + 1 := by rw [hwa]; exact World.size_alloc _ _
  have hna : Nu w1 wa := by rw [hwa]; exact Mv.alloc _ _ _
  have hn2 : Nu wa w2 := by rw [hw2]; exact Mv.alloc _ _ _
  have hmn : MapN wa w1.heap.size [] := by rw [hwa]; exact MapN.made w1
  have HWK : Hid (WK w1.heap.size w2 (w1.heap.size + 1) w1.heap.size T r0 most none 0 [] 0) := by
    refine ⟨?_, hmn.mv hn2 id, ⟨rfl, .inl ⟨rfl, rfl⟩⟩, Nat.le_succ _, Nat.le_refl _⟩
    have := heap_alloc_new wa (.cells #[.iface T r0, .int .i64 most, .map (some w1.heap.size), .slice none 0 0, .int .i64 0] 78)
    rw [← hw2, hza] at this
    exact this
  have HN2 := hid (mv0 hna hn2)
  have HS2 := hid (HS.out.nu (mv0 HN1.out HN2.out))
  clear hwa hw2 hza hna hn2 hmn
  go_upto_region 5 with (go_at_call 31; refine (walkall_any w1.heap.size (w1.heap.size + 1) w1.heap.size T r0 most F M w2 HWK.out HS2.out (fun b hb => Nat.lt_of_lt_of_le (HS.out.lt b hb) HN1.out.size) HM.out HMO.out.1 HMO.out.2).mono ?_; rintro e w3 ⟨hm3, hcase⟩; have HM3 := hid hm3; rcases hcase with ⟨hno, rfl⟩ | ⟨ns, ss, cnt, no, nc, nxs, so, sc, hyes, rfl, hwk3, hwa3, hnl, hsl⟩)
  · have HA3 := hid (HM3.out.heap (HN2.out.heap HA1.out id) (by have := HZ1.out; omega))
    have HNW : Hid (Nu w w3) := (mv0 HN1.out HN2.out).trans HM3.out (fun b hb => .inr (by have := HZ1.out; omega))
    have HNO := hid hno
    have q0 := cell_blk HA3.out 0
    have z0 := free_blk HA3.out 0
    simp only [List.size_toArray, List.length_cons, List.length_nil, Nat.reduceAdd, Nat.lt_add_one, Nat.reduceLT, getElem?_pos, List.getElem_toArray, List.getElem_cons_zero] at q0
    have hc := World.cell?_setCell_same' w3 ⟨w.heap.size, 0, none⟩ (.slice none 0 0) (by rw [q0]; rfl)
    clear hm3 hno
    go_wp2
    refine bodyPost_ret (v := .tuple #[.agg #[.slice none 0 0], .slice none 0 0, .int .i64 131]) (by simp [results, Try.results16, go_sem, hc]) rfl ⟨HNW.out.trans (Mv.setCell w3 ⟨w.heap.size, 0, none⟩ _) (fun x hx => .inr (by simp only at hx; omega)), none, 0, none, 0, [], [], 131, rfl, NodesAt.nil _ _ _, StrsAt.nil _ _ _, .inr (.inl ⟨HMO.out.1, HMO.out.2, HNO.out, rfl, rfl, rfl⟩)⟩
  · have HA3 := hid (HM3.out.heap (HN2.out.heap HA1.out id) (by have := HZ1.out; omega))
    have HNW : Hid (Nu w w3) := (mv0 HN1.out HN2.out).trans HM3.out (fun b hb => .inr (by have := HZ1.out; omega))
    have HYE := hid hyes
    have HWK3 := hid hwk3
    have HWA3 := hid hwa3
    have HLN := hid (And.intro hnl hsl)
    clear hm3 hyes hwk3 hwa3 hnl hsl
    have q0 := cell_blk HA3.out 0
    have z0 := free_blk HA3.out 0
    obtain ⟨_, _, _, d3, _⟩ := cells5 HWK3.out.blk
    simp only [List.size_toArray, List.length_cons, List.length_nil, Nat.reduceAdd, Nat.lt_add_one, Nat.reduceLT, getElem?_pos, List.getElem_toArray, List.getElem_cons_zero] at q0
    go_upto_region 7 with fail
    go_region
    have hmS := Mv.setCell w3.drew ⟨w.heap.size, 0, none⟩ (.slice no ns.length nc)
    have hm' : Mv (· = w.heap.size) w3 (w3.drew.setCell ⟨w.heap.size, 0, none⟩ (.slice no ns.length nc)) := ((Mv.drew (fun _ => False) w3).mono (fun _ h => h.elim)).trans hmS (fun b hb => .inl hb)
    have hS : ∀ b, b = w.heap.size → b < w1.heap.size := fun b hb => by have := HZ1.out; omega
    have HNA := hid (HWA3.out.out HLN.out.1 hm' hS)
    have hst := row_mv hm' HWK3.out.st (fun k hk e => by have := (row_blk HWK3.out.st hk).1; have := HZ1.out; omega)
    have HSA : Hid (StrsAt (w3.drew.setCell ⟨w.heap.size, 0, none⟩ (.slice no ns.length nc)) (w3.drew.setCell ⟨w.heap.size, 0, none⟩ (.slice no ns.length nc)).heap.size so ss) := by
      refine ⟨by have := HLN.out.2; omega, ?_⟩
      rcases hst.2 with ⟨_, hn⟩ | ⟨g, cap, cur, hv, _, hg, _⟩
      · exact .inl hn
      · have hvo : so = some ⟨g, 0, none⟩ := by simp only [Value.slice.injEq] at hv; exact hv.1
        subst hvo
        refine .inr ⟨g, 0, rfl, lt_of_block hg, fun i hi => ?_⟩
        have := hst.cells (g := g) rfl i (.string ss[i]) (by rw [List.getElem?_map, List.getElem?_eq_getElem hi]; rfl)
        rw [add_block] at this
        rwa [Nat.zero_add]
    have HNF : Hid (Nu w (w3.drew.setCell ⟨w.heap.size, 0, none⟩ (.slice no ns.length nc))) := HNW.out.trans hm' (fun b hb => .inr (by omega))
    have hc := World.cell?_setCell_same' w3.drew ⟨w.heap.size, 0, none⟩ (.slice no ns.length nc) (by show (w3.cell? ⟨w.heap.size, 0, none⟩).isSome = true; rw [q0]; rfl)
    have hc' := World.cell?_setCell_same' w3 ⟨w.heap.size, 0, none⟩ (.slice no ns.length nc) (by rw [q0]; rfl)
    clear hmS hm' hS hst q0 z0 d3
    go_wp2
    refine bodyPost_ret (v := .tuple #[.agg #[.slice no ns.length nc], .slice so ss.length sc, .int .i64 0]) (by simp [results, Try.results16, go_sem, hc']) rfl ⟨HNF.out, no, nc, so, sc, ns, ss, 0, rfl, HNA.out, HSA.out, .inr (.inr ⟨HMO.out.1, HMO.out.2, HYE.out, rfl⟩)⟩

/-- THE CONTRACTS of the program. -/
theorem nCons : NCons where
  check := fun w ao cap ns h => Check_any w ao cap ns h
  of := fun w ao cap ns h => Of_any w ao cap ns h
  expl := fun w F T r0 M most hs hM hI => Explore_any w F T r0 M most hs hM hI
  checkT0 := fun w => checkT0_any w
  explN := fun w most => (explN_any w most).mono (fun e w' ⟨h1, h2⟩ => ⟨h1, _, _, h2⟩)

end Go.Proofs.Ytlgljpbbooeanaa
