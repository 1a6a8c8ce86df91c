/-
  NGraphOf.
-/
import Derived.Deep.Cut
import Derived.Test.YtkjalclplfdpmaaM28
/-
  A graph's copy: the program's graphOf.
-/
set_option linter.unusedVariables false
set_option linter.unusedSimpArgs false
namespace Go.Proofs.Ytkjalclplfdpmaa
open Go.RowKit

theorem act_eq' {a : Act} {t : Array Value} {d : List Deferred} (h : a.tmps = t) (hd : a.defers = d) : a = ⟨t, d⟩ := by
  cases a
  simp_all

theorem GCp.step {wr w3 wk w9 : World} {ao3 : Option Addr} {g3 c3 : Nat} {xs0 axs : List AX} {k H : Nat} {x' : AX} (h : GCp wr w3 wk (some ⟨g3, 0, none⟩) c3 xs0 axs k) (hk : k < axs.length) (hm : Mv (· = g3) wk w9) (hH : H = wk.heap.size) (hx : x'.a = axs[k].a) (hrow : w9.ownsRow wr.heap.size 51 6 (.slice (some ⟨g3, 0, none⟩) xs0.length c3) xs0.length (axflat (axs.set k x')))
    (hr : Fr w9 H g3 x'.ra x'.rc x'.a.reads) (hw : Fr w9 H g3 x'.wa x'.wc x'.a.writes) : GCp wr w3 w9 (some ⟨g3, 0, none⟩) c3 xs0 (axs.set k x') (k + 1) := by
  subst hH
  have hwk : wr.heap.size ≤ wk.heap.size := by
    have := (row_blk h.row (k := g3) rfl)
    omega
  obtain ⟨_, _, cs3, hc3⟩ := row_blk h.row (k := g3) rfl
  have hZ : ∀ b, ZI wr.heap.size wk b → ¬ b = g3 := fun b ⟨_, cs, hc⟩ e => by
    rw [e, hc3] at hc
    simp at hc
  have hZ' : ∀ b, ZI wr.heap.size wk b → ZI wr.heap.size w9 b := fun b hb => by
    obtain ⟨h1, cs, hc⟩ := hb
    exact ⟨h1, cs, hm.heap hc (hZ b ⟨h1, cs, hc⟩)⟩
  refine ⟨by rw [List.length_set]; exact h.len, ?_, hrow, fun j hj hj' hkj => ?_, fun j hj hjk => ?_, h.mv.trans hm (fun x hx => .inl (by rw [hx]; rfl))⟩
  · rw [List.map_set, hx, ← List.getElem_map AX.a (h := by simpa using hk), List.set_getElem_self, h.eq]
  · rw [List.getElem_set_ne (by omega)]
    exact h.old j (by rwa [List.length_set] at hj) hj' (by omega)
  · have hj2 : j < axs.length := by rwa [List.length_set] at hj
    by_cases hjk' : j = k
    · subst hjk'
      rw [List.getElem_set_self]
      refine ⟨hr.1.z (fun a hp ha => ?_), hw.1.z (fun a hp ha => ?_)⟩
      · rcases hr.1.row with h0 | ⟨g, cs, hg, hh, hc, _⟩
        · omega
        · rw [hg] at ha; cases ha; exact ⟨Nat.le_trans hwk hh, cs, hc⟩
      · rcases hw.1.row with h0 | ⟨g, cs, hg, hh, hc, _⟩
        · omega
        · rw [hg] at ha; cases ha; exact ⟨Nat.le_trans hwk hh, cs, hc⟩
    · rw [List.getElem_set_ne (fun e => hjk' e.symm)]
      exact (h.new j hj2 (by omega)).mv hm hZ hZ'

set_option maxHeartbeats 8000000 in
set_option maxRecDepth 40000 in
theorem graphOf_any (w : World) (ao : Option Addr) (cap : Nat) (ns : List Node) (h : NodesAt w w.heap.size ao ns) (hm : mayN ns = true) : Calls Try.prog 16 #[.agg #[.slice ao ns.length cap]] w fun e w' => Nu w w' ∧ ∃ gb g nc rb nxs, e = .returned (.pointer (some ⟨gb, 0, none⟩)) ∧ GraphIs w' (fun b => w.heap.size ≤ b ∧ b < w'.heap.size) gb ns g nc rb nxs := by
  have hmm : (1 ≤ ns.length ∧ ns.length ≤ 20000) ∧ ∀ x ∈ ns, x.arcs.length ≤ 262144 := by
    simp only [mayN, Bool.and_eq_true, decide_eq_true_eq] at hm
    refine ⟨hm.1.1, fun x hx => ?_⟩
    obtain ⟨i, hi, rfl⟩ := List.mem_iff_getElem.1 hx
    have h1 := arcsIn_le ns (i + 1)
    rw [arcsIn_take ns i hi] at h1
    have := hm.1.2
    omega
  have HMM := hid hmm
  have HNS : Hid (NodesAt w w.heap.size ao ns) := h
  have hl1 := hmm.1.1
  have hl2 := hmm.1.2
  have hl3 : (ns.length : Int) ≤ 20000 := by omega
  clear h hm hmm
  go_enter Try.func16, Try.ntmps16
  go_upto_region 1 with fail
  have HN1 : Hid (Nu w (w.alloc (.cells #[.slice ao ns.length cap] 24))) := Mv.alloc _ _ _
  have HB1 : Hid ((w.alloc (.cells #[.slice ao ns.length cap] 24)).cell? ⟨w.heap.size, 0, none⟩ = some (.slice ao ns.length cap)) := cell_blk (heap_alloc_new w _) 0
  have HZ1 : Hid (w.heap.size ≤ (w.alloc (.cells #[.slice ao ns.length cap] 24)).heap.size) := HN1.out.size
  generalize w.alloc (.cells #[.slice ao ns.length cap] 24) = w1 at *
  have c1 := HB1.out
  obtain ⟨nxs0, he0, hlen0, hrow0, hax0⟩ := (HNS.out.below HN1.out.nu_below (Nat.le_refl _)).nxs
  rcases hrow0 with h0 | ⟨b, off, rfl, hb, hit0⟩
  · omega
  have HIT := hid hit0
  have HAX := hid hax0
  have HEQ := hid he0
  have HLN := hid hlen0
  clear hit0 hax0 he0 hlen0
  go_upto_region 2 with (go_at_call 30; have hcl := CloneN_any w1 b off cap nxs0 HIT.out (by rw [HLN.out]; exact hl1) (by rw [HLN.out]; exact hl2); rw [HLN.out] at hcl; refine hcl.mono ?_; rintro e w2 ⟨hn2, g, nc, rfl, hown2⟩; have HN2 := hid hn2; have HOW2 := hid hown2; clear hcl hn2 hown2)
  clear c1
  have HGO0 : Hid (GO w1 w2 g nc ns 0 nxs0) := ⟨HEQ.out, HOW2.out, fun x hx => (HAX.out x hx).1, fun j hj _ => by
    have := (HAX.out _ (List.getElem_mem hj)).2
    exact this.below ((HN2.out.nu_below).mono HZ1.out) HZ1.out, fun j hj h => absurd h (by omega), HN2.out⟩
  clear HIT HAX HEQ HOW2
  go_wp2
  go_loopw [12] (fun iv wr => ∃ (i : Nat) (nxs : List NX), i ≤ ns.length ∧ iv = .int .i64 (i : Int) ∧ Hid (GO w1 wr g nc ns i nxs)) (fun iv _ => ns.length - (intOf iv).toNat)
  case atStart => exact ⟨0, nxs0, Nat.zero_le _, rfl, HGO0.out⟩
  case round =>
    obtain ⟨i, nxs, hi, rfl, HGO⟩ := hrel
    rename World => V0
    rcases Nat.lt_or_ge i ns.length with hlt | hge
    · have hlt' : (i : Int) < (ns.length : Int) := by omega
      have HLT : Hid (i < ns.length) := hlt
      have hnl : nxs.length = ns.length := by rw [← HGO.out.eq, List.length_map]
      have hlx : i < nxs.length := by rw [hnl]; exact hlt
      have hrw := HGO.out.row
      rw [← hnl] at hrw
      have c0 := (nxrow_at hrw (g := g) rfl i hlx).c0
      have HXO : Hid (ArcsO V0 w1.heap.size nxs[i].vo nxs[i].xs) := HGO.out.old i hlx (Nat.le_refl _)
      have HXL : Hid (nxs[i].xs.length ≤ 262144) := by
        have h1 := congrArg List.length (HGO.out.ax _ (List.getElem_mem hlx))
        rw [List.length_map] at h1
        show nxs[i].xs.length ≤ 262144
        rw [h1]
        refine HMM.out.2 _ ?_
        rw [← HGO.out.eq]
        exact List.mem_map.2 ⟨_, List.getElem_mem hlx, rfl⟩
      have HST : Hid (∀ (w3 wk : World) (ao3 : Option Addr) (c3 : Nat) (axs : List AX), Nu V0 w3 → Mv (fun b => (Value.slice ao3 axs.length c3).ownBlock = some b) w3 wk → wk.ownsRow V0.heap.size 51 6 (.slice ao3 axs.length c3) axs.length (axflat axs) → axs.map AX.a = nxs[i].xs.map AX.a → (∀ x ∈ axs, AXZ wk (ZI V0.heap.size wk) x) → ∃ nxs', GO w1 (wk.setCell ⟨g, i * 5, none⟩ (.slice ao3 axs.length c3)) g nc ns (i + 1) nxs') := fun w3 wk ao3 c3 axs h3 hm hrow heq hz => ⟨_, HGO.out.step hlx h3 hm hrow heq hz⟩
      have HGB : Hid (w1.heap.size ≤ g ∧ g < V0.heap.size ∧ ∃ cs, V0.heap[g]? = some (.cells cs 48 (0, 0)) ∧ i * 5 < cs.size) := by
        rcases HGO.out.row.2 with ⟨hv, _⟩ | ⟨g', cap', cur, hv, h1, h2, h3, h4, h5, h6⟩
        · simp at hv
        · simp only [Value.slice.injEq, Option.some.injEq, Addr.mk.injEq] at hv
          obtain ⟨⟨rfl, _⟩, _⟩ := hv
          exact ⟨h1, lt_of_block h2, cur, h2, by omega⟩
      generalize hxv : nxs[i].vo = vo at *
      generalize hxc : nxs[i].vc = vc at *
      generalize hxx : nxs[i].xs = xs0 at *
      clear hrw hnl hlt hxv hxc hxx hlx
      go_upto_region 6 with (go_at_call 31; refine (CloneA_any _ _ vo vc xs0 HXO.out HXL.out).mono ?_; rintro e w3 ⟨hn3, ao3, c3, rfl, hown3⟩; have HN3 := hid hn3; have HOW3 := hid hown3; clear hn3 hown3)
      clear c0
      have hxl : (xs0.length : Int) ≤ 262144 := by have := HXL.out; omega
      have HGI0 : Hid (GCp V0 w3 w3 ao3 c3 xs0 xs0 0) := ⟨rfl, rfl, HOW3.out, fun j hj hj' _ => rfl, fun j hj h => absurd h (by omega), Mv.refl _ _⟩
      go_wp2
      go_loopw [23] (fun kv wk => ∃ (k : Nat) (axs : List AX), k ≤ xs0.length ∧ kv = .int .i64 (k : Int) ∧ Hid (GCp V0 w3 wk ao3 c3 xs0 axs k)) (fun kv _ => xs0.length - (intOf kv).toNat)
      case atStart => exact ⟨0, xs0, Nat.zero_le _, rfl, HGI0.out⟩
      case round =>
        obtain ⟨k, axs, hk, rfl, HGI⟩ := hrel
        rcases Nat.lt_or_ge k xs0.length with hlt2 | hge2
        · have hlt2' : (k : Int) < (xs0.length : Int) := by omega
          have HLT2 : Hid (k < xs0.length) := hlt2
          obtain ⟨g3, rfl⟩ : ∃ g3, ao3 = some ⟨g3, 0, none⟩ := by
            rcases HGI.out.row.2 with ⟨_, hn⟩ | ⟨g3, _, _, hv, _⟩
            · omega
            · simp only [Value.slice.injEq] at hv
              exact ⟨g3, hv.1⟩
          have hka : k < axs.length := by rw [HGI.out.len]; exact hlt2
          have hxk := HGI.out.old k hka hlt2 (Nat.le_refl _)
          have HRD : Hid (∀ W : World, Below w1.heap.size V0 W → IntsAt W w1.heap.size axs[k].ra axs[k].a.reads ∧ IntsAt W w1.heap.size axs[k].wa axs[k].a.writes) := fun W hW => by
            rw [hxk]
            have := HXO.out.rd _ (List.getElem_mem hlt2)
            exact ⟨this.1.below hW (Nat.le_refl _), this.2.below hW (Nat.le_refl _)⟩
          have HSET : Hid (axs.set k axs[k] = axs) := List.set_getElem_self hka
          have HGS := hid (fun (w9 : World) (x' : AX) => HGI.out.step (ao3 := none) (w9 := w9) (H := wr.heap.size) (x' := x') hka)
          have HBL : Hid (Below w1.heap.size V0 wr ∧ g3 < wr.heap.size ∧ w1.heap.size ≤ wr.heap.size ∧ w1.heap.size ≤ g3) := by
            have h1 := (row_blk HGI.out.row (k := g3) rfl)
            have h2 : Nu V0 wr := HN3.out.trans HGI.out.mv (fun x hx => .inr ((row_blk HGI.out.row hx).1))
            have h3 := HGO.out.nu.size
            have h4 := h2.size
            exact ⟨h2.nu_below.mono h3, h1.2.1, by omega, by omega⟩
          generalize hx : axs[k] = x at *
          have HKA := hid hka
          clear hlt2 hka hxk hx
          go_upto_region 9 with fail
          rename_i KC hKC
          refine wp_regJ (· = g3) (R9 g3 xs0.length c3 k x wr.heap.size) (J9 V0.heap.size wr.heap.size g3 xs0.length c3 axs k x 18 21) R9.mv ?hj (by kernel_rfl) (by kernel_rfl) ?h0 ?step ?store ?last
          case hj =>
            intro l i o d w w' ho hd hm hJ
            exact hJ.nu hm (fun e => by subst e; cases ho; cases hd) (fun e => by subst e; cases ho; cases hd)
          case h0 =>
            refine ⟨x, rfl, ?_, fun e => absurd e (by rw [getD_none]; simp), fun _ => ⟨rfl, rfl⟩, fun e => absurd e (by rw [getD_none]; simp), fun _ => ⟨rfl, rfl⟩⟩
            rw [HSET.out]
            exact row_mv (Mv.drew (fun _ => False) _) HGI.out.row (fun _ _ => id)
          case step =>
            intro l i o d a w' ho hd hl haft hcl hmv hJ hfr had K hK
            have hi : i < 22 := (Array.getElem?_eq_some_iff.1 ho).1
            have f5 := hfr 5 (by kernel_rfl)
            have f6 := hfr 6 (by kernel_rfl)
            have hbl : Below w1.heap.size V0 w' := HBL.out.1.trans (hmv.below HBL.out.2.2.1 (fun b hb => by subst hb; exact HBL.out.2.2.2))
            have hcp : ∀ {W : World} {ao' : Option Addr} {cap' : Nat} {ys : List Int}, OwnI W w'.heap.size ao' cap' ys → Fr W wr.heap.size g3 ao' cap' ys := fun {W ao' cap' ys} h => by
              refine ⟨h.mv (Mv.refl (fun _ => False) _) (fun _ _ _ => id) hmv.size, fun a hp ha => ?_⟩
              rcases h.row with h0 | ⟨g', cs, hg', hh, _⟩
              · omega
              · rw [hg'] at ha; cases ha
                have := hmv.size
                have := HBL.out.2.1
                show g' ≠ g3
                omega
            have : i = 0 ∨ i = 1 ∨ i = 2 ∨ i = 3 ∨ i = 4 ∨ i = 5 ∨ i = 6 ∨ i = 7 ∨ i = 8 ∨ i = 9 ∨ i = 10 ∨ i = 11 ∨ i = 12 ∨ i = 13 ∨ i = 14 ∨ i = 15 ∨ i = 16 ∨ i = 17 ∨ i = 18 ∨ i = 19 ∨ i = 20 ∨ i = 21 := by omega
            rcases this with rfl | rfl | rfl | rfl | rfl | rfl | rfl | rfl | rfl | rfl | rfl | rfl | rfl | rfl | rfl | rfl | rfl | rfl | rfl | rfl | rfl | rfl <;> cases ho <;> cases hd
            · exact ite_yes (want_none rfl) (lk_move rfl rfl f5 (fun w' hm => hK w' _ hm rfl))
            · exact ite_yes (want_none rfl) (lk_move rfl rfl f6 (fun w' hm => hK w' _ hm rfl))
            · exact ite_yes (want_none rfl) (lk_move rfl rfl f5 (fun w' hm => hK w' _ hm rfl))
            · exact ite_yes (want_none rfl) (lk_move rfl rfl f6 (fun w' hm => hK w' _ hm rfl))
            · exact ite_yes (want_none rfl) (lk_move rfl rfl f5 (fun w' hm => hK w' _ hm rfl))
            · exact ite_yes (want_none rfl) (lk_move rfl rfl f6 (fun w' hm => hK w' _ hm rfl))
            · obtain ⟨⟨_, h0, rfl⟩, ⟨_, h1, rfl⟩, _⟩ := had; exact ite_yes (want_none rfl) (lk_idxA HLT2.out rfl rfl h0 h1 (fun w' hm => hK w' _ hm rfl))
            · obtain ⟨⟨_, h0, rfl⟩, _⟩ := had; exact ite_yes (want_none rfl) (lk_fieldA3 rfl rfl h0 (fun w' hm => hK w' _ hm rfl))
            · obtain ⟨⟨_, h0, rfl⟩, _⟩ := had
              obtain ⟨x', hxa, hrow, _, h18, _⟩ := hJ
              have hnot : l.getD 18 false = false := by
                cases hc : l.getD 18 false with
                | false => rfl
                | true =>
                  have h9 := hcl 18 _ rfl hc ⟨9, .data⟩ (by simp) rfl
                  have h8 := hcl 9 _ rfl h9 ⟨8, .data⟩ (by simp) rfl
                  rw [hl] at h8
                  cases h8
              obtain ⟨e1, e2⟩ := h18 hnot
              have hl' : (axs.set k x').length = xs0.length := by rw [List.length_set]; exact HGI.out.len
              rw [← hl'] at hrow
              have hat := (axrow_at hrow (g := g3) rfl k (by rw [hl']; exact HLT2.out)).c3
              rw [List.getElem_set_self, e1, e2, hxa] at hat
              exact ite_yes (want_none rfl) (lk_loadI rfl rfl h0 hat (fun w' hm => hK w' _ hm rfl))
            · obtain ⟨⟨_, h0, rfl⟩, _⟩ := had; exact ite_yes (want_none rfl) (lk_clone rfl rfl h0 (HRD.out _ hbl).1 (fun w' ao' cap' hm hown => hK w' _ hm ⟨ao', cap', rfl, hcp hown⟩))
            · exact ite_yes (want_none rfl) (lk_move rfl rfl f5 (fun w' hm => hK w' _ hm rfl))
            · exact ite_yes (want_none rfl) (lk_move rfl rfl f6 (fun w' hm => hK w' _ hm rfl))
            · obtain ⟨⟨_, h0, rfl⟩, ⟨_, h1, rfl⟩, _⟩ := had; exact ite_yes (want_none rfl) (lk_idxA HLT2.out rfl rfl h0 h1 (fun w' hm => hK w' _ hm rfl))
            · obtain ⟨⟨_, h0, rfl⟩, _⟩ := had; exact ite_yes (want_none rfl) (lk_fieldA4 rfl rfl h0 (fun w' hm => hK w' _ hm rfl))
            · obtain ⟨⟨_, h0, rfl⟩, _⟩ := had
              obtain ⟨x', hxa, hrow, _, _, _, h21⟩ := hJ
              have hnot : l.getD 21 false = false := by
                cases hc : l.getD 21 false with
                | false => rfl
                | true =>
                  have h15 := hcl 21 _ rfl hc ⟨15, .data⟩ (by simp) rfl
                  have h14 := hcl 15 _ rfl h15 ⟨14, .data⟩ (by simp) rfl
                  rw [hl] at h14
                  cases h14
              obtain ⟨e1, e2⟩ := h21 hnot
              have hl' : (axs.set k x').length = xs0.length := by rw [List.length_set]; exact HGI.out.len
              rw [← hl'] at hrow
              have hat := (axrow_at hrow (g := g3) rfl k (by rw [hl']; exact HLT2.out)).c4
              rw [List.getElem_set_self, e1, e2, hxa] at hat
              exact ite_yes (want_none rfl) (lk_loadI rfl rfl h0 hat (fun w' hm => hK w' _ hm rfl))
            · obtain ⟨⟨_, h0, rfl⟩, _⟩ := had; exact ite_yes (want_none rfl) (lk_clone rfl rfl h0 (HRD.out _ hbl).2 (fun w' ao' cap' hm hown => hK w' _ hm ⟨ao', cap', rfl, hcp hown⟩))
            · obtain ⟨⟨_, h0, rfl⟩, ⟨_, h1, rfl⟩, _⟩ := had; exact ite_yes (want_none rfl) (lk_idxA HLT2.out rfl rfl h0 h1 (fun w' hm => hK w' _ hm rfl))
            · obtain ⟨⟨_, h0, rfl⟩, _⟩ := had; exact ite_yes (want_none rfl) (lk_fieldA3 rfl rfl h0 (fun w' hm => hK w' _ hm rfl))
            · obtain ⟨⟨_, h0, rfl⟩, ⟨_, h1, rfl⟩, _⟩ := had; exact ite_yes (want_none rfl) (lk_idxA HLT2.out rfl rfl h0 h1 (fun w' hm => hK w' _ hm rfl))
            · obtain ⟨⟨_, h0, rfl⟩, _⟩ := had; exact ite_yes (want_none rfl) (lk_fieldA4 rfl rfl h0 (fun w' hm => hK w' _ hm rfl))
          case store =>
            intro l i o a w' ho hd hls haft hcl hmv hJ hfr had K hK
            have hi : i < 22 := (Array.getElem?_eq_some_iff.1 ho).1
            have hcs : ∃ cs, w'.heap[g3]? = some (.cells cs 51 (0, 0)) ∧ k * 6 + 5 < cs.size := by
              obtain ⟨x', _, hrow, _⟩ := hJ
              have := HLT2.out
              rcases hrow.2 with ⟨hv, _⟩ | ⟨g', cap', cur, hv, h1, h2, h3, h4, h5, h6⟩
              · simp at hv
              · simp only [Value.slice.injEq, Option.some.injEq, Addr.mk.injEq] at hv
                obtain ⟨⟨rfl, _⟩, _⟩ := hv
                exact ⟨cur, h2, by omega⟩
            obtain ⟨cs, hcb, hcz⟩ := hcs
            have : i = 0 ∨ i = 1 ∨ i = 2 ∨ i = 3 ∨ i = 4 ∨ i = 5 ∨ i = 6 ∨ i = 7 ∨ i = 8 ∨ i = 9 ∨ i = 10 ∨ i = 11 ∨ i = 12 ∨ i = 13 ∨ i = 14 ∨ i = 15 ∨ i = 16 ∨ i = 17 ∨ i = 18 ∨ i = 19 ∨ i = 20 ∨ i = 21 := by omega
            rcases this with rfl | rfl | rfl | rfl | rfl | rfl | rfl | rfl | rfl | rfl | rfl | rfl | rfl | rfl | rfl | rfl | rfl | rfl | rfl | rfl | rfl | rfl <;> cases ho <;> first | (cases hd; done) | skip
            · obtain ⟨⟨_, h0, rfl⟩, ⟨_, h1, ra, rc, rfl, hf⟩, _⟩ := had
              exact lk_storeI rfl rfl h0 h1 hcb (by omega) (hK _ (Mv.setCell w' ⟨g3, k * 6 + 3, none⟩ _) (hJ.storeP HKA.out (by rw [hls]; decide) (by decide) hf))
            · obtain ⟨⟨_, h0, rfl⟩, ⟨_, h1, ra, rc, rfl, hf⟩, _⟩ := had
              exact lk_storeI rfl rfl h0 h1 hcb (by omega) (hK _ (Mv.setCell w' ⟨g3, k * 6 + 4, none⟩ _) (hJ.storeQ HKA.out (by rw [hls]; decide) (by decide) hf))
          case last =>
            intro l a w9 hls hall hmv hJ hdf hsz hfr htv
            obtain ⟨x', hxa, hrow, h18, _, h21, _⟩ := hJ
            have HX9 : Hid (GCp V0 w3 w9 (some ⟨g3, 0, none⟩) c3 xs0 (axs.set k x') (k + 1)) := by
              have h1 := h18 (hall 18 (by decide))
              have h2 := h21 (hall 21 (by decide))
              rw [← hxa] at h1 h2
              exact HGS.out w9 x' hmv rfl hxa hrow h1 h2
            obtain ⟨v9, t9, ra9, rc9, rfl, _⟩ := htv 9 _ 35 rfl rfl
            obtain ⟨v15, t15, ra15, rc15, rfl, _⟩ := htv 15 _ 41 rfl rfl
            have htm := fill_eqN (vals := fun i => ([.slice (some ⟨g3, 0, none⟩) xs0.length c3, .int .i64 (k : Int), .slice (some ⟨g3, 0, none⟩) xs0.length c3, .int .i64 (k : Int), .slice (some ⟨g3, 0, none⟩) xs0.length c3, .int .i64 (k : Int), .pointer (some ⟨g3, k * 6, none⟩), .pointer (some ⟨g3, k * 6 + 3, none⟩), .slice x.ra x.a.reads.length x.rc, .slice ra9 x.a.reads.length rc9, .slice (some ⟨g3, 0, none⟩) xs0.length c3, .int .i64 (k : Int), .pointer (some ⟨g3, k * 6, none⟩), .pointer (some ⟨g3, k * 6 + 4, none⟩), .slice x.wa x.a.writes.length x.wc, .slice ra15 x.a.writes.length rc15, .pointer (some ⟨g3, k * 6, none⟩), .pointer (some ⟨g3, k * 6 + 3, none⟩), undef, .pointer (some ⟨g3, k * 6, none⟩), .pointer (some ⟨g3, k * 6 + 4, none⟩), undef] : List Value).getD i undef) (by kernel_rfl) hfr (fun i o d hi hd => by
              have hi' : i < 22 := (Array.getElem?_eq_some_iff.1 hi).1
              obtain ⟨v, h, hv⟩ := htv i o d hi hd
              have : i = 0 ∨ i = 1 ∨ i = 2 ∨ i = 3 ∨ i = 4 ∨ i = 5 ∨ i = 6 ∨ i = 7 ∨ i = 8 ∨ i = 9 ∨ i = 10 ∨ i = 11 ∨ i = 12 ∨ i = 13 ∨ i = 14 ∨ i = 15 ∨ i = 16 ∨ i = 17 ∨ i = 18 ∨ i = 19 ∨ i = 20 ∨ i = 21 := by omega
              rcases this with rfl | rfl | rfl | rfl | rfl | rfl | rfl | rfl | rfl | rfl | rfl | rfl | rfl | rfl | rfl | rfl | rfl | rfl | rfl | rfl | rfl | rfl <;> cases hi <;> cases hd <;> first | exact t9 | exact t15 | exact h.trans (congrArg some hv))
            refine hKC _ _ ?_
            rw [act_eq' htm hdf]
            clear htm hdf hsz hfr htv t9 t15 hall h18 h21 hrow hls
            simp only [fill, List.getD_cons_succ, List.getD_cons_zero, List.setIfInBounds_toArray, List.set_cons_succ, List.set_cons_zero]
            go_wp2
            go_roundw
            case rel => exact ⟨k + 1, _, HLT2.out, by go_num, HX9.out⟩
            case measure => have := HLT2.out; simp [intOf]; omega
        · obtain rfl : k = xs0.length := by omega
          have hl := HGI.out.len
          have h2 : Nu V0 wr := HN3.out.trans HGI.out.mv (fun x hx => .inr ((row_blk HGI.out.row hx).1))
          obtain ⟨hg1, hg2, cs, hcs, hcz⟩ := HGB.out
          have hcs2 := h2.heap hcs id
          have d0 := cell_blk hcs2 (i * 5)
          rw [Array.getElem?_eq_getElem hcz] at d0
          have f0 := free_blk hcs2 (i * 5)
          have HNX : Hid (∃ nxs', GO w1 (wr.setCell ⟨g, i * 5, none⟩ (.slice ao3 xs0.length c3)) g nc ns (i + 1) nxs') := by
            have := HST.out w3 wr ao3 c3 axs HN3.out (by rw [hl]; exact HGI.out.mv) (by rw [hl]; exact HGI.out.row) HGI.out.eq (fun x hx => by
              obtain ⟨j, hj, rfl⟩ := List.mem_iff_getElem.1 hx
              exact HGI.out.new j hj (by omega))
            rwa [hl] at this
          generalize cs[i * 5] = old at *
          clear hl h2 hcs hcs2 hcz
          go_wp2
          go_roundw
          case rel =>
            obtain ⟨nxs', hn⟩ := HNX.out
            exact ⟨i + 1, nxs', HLT.out, by go_num, hn⟩
          case measure => have := HLT.out; simp [intOf]; omega
    · obtain rfl : i = ns.length := by omega
      go_wp2
      go_ret
      have hnl : nxs.length = ns.length := by rw [← HGO.out.eq, List.length_map]
      have hn0 : Nu w V0 := mv0 HN1.out HGO.out.nu
      have ha1 : Nu V0 (V0.alloc (.cells #[.int .i64 (ns.length : Int)] 3)) := Mv.alloc _ _ _
      have hr1 := heap_alloc_new V0 (.cells #[.int .i64 (ns.length : Int)] 3)
      have hz1 : (V0.alloc (.cells #[.int .i64 (ns.length : Int)] 3)).heap.size = V0.heap.size + 1 := by simp
      generalize V0.alloc (.cells #[.int .i64 (ns.length : Int)] 3) = V1 at *
      have ha2 : Nu V1 (V1.alloc (.cells #[.slice (some ⟨V0.heap.size, 0, none⟩) 1 1, .slice (some ⟨g, 0, none⟩) ns.length nc] 81)) := Mv.alloc _ _ _
      have hr2 := heap_alloc_new V1 (.cells #[.slice (some ⟨V0.heap.size, 0, none⟩) 1 1, .slice (some ⟨g, 0, none⟩) ns.length nc] 81)
      have hz2 : (V1.alloc (.cells #[.slice (some ⟨V0.heap.size, 0, none⟩) 1 1, .slice (some ⟨g, 0, none⟩) ns.length nc] 81)).heap.size = V1.heap.size + 1 := by simp
      generalize V1.alloc (.cells #[.slice (some ⟨V0.heap.size, 0, none⟩) 1 1, .slice (some ⟨g, 0, none⟩) ns.length nc] 81) = V2 at *
      have hn2 : Nu V0 V2 := mv0 ha1 ha2
      have hsz0 := hn0.size
      have hgb := row_blk HGO.out.row (k := g) rfl
      have hw1 := HZ1.out
      have hrw := HGO.out.row
      rw [← hnl] at hrw
      refine ⟨mv0 hn0 hn2, _, g, nc, V0.heap.size, nxs, rfl, HGO.out.eq, HMM.out.1, ⟨by omega, by omega⟩, ⟨by omega, by omega⟩, ⟨by omega, by omega⟩, (by rw [← hz1]; exact hr2), ha2.heap hr1 id, fun j hj => (nxrow_at hrw (g := g) rfl j hj).mv hn2 id, fun x hx => ⟨HGO.out.ax x hx, ?_⟩⟩
      obtain ⟨j, hj, rfl⟩ := List.mem_iff_getElem.1 hx
      refine (HGO.out.new j hj (by omega)).mv hn2 (fun _ _ => id) (fun b hb => ?_)
      obtain ⟨h1, cs, t, hc, _⟩ := hb
      have := lt_of_block hc
      exact ⟨by omega, by omega⟩

end Go.Proofs.Ytkjalclplfdpmaa
