/-
  QColNot, QColNext, QColAlways, QColFin, QColAnd, QColOr, QColImp, QColTil.
-/
import Derived.Test.YtidihaecgmbhpaaDoorM12
import Derived.Test.YtidihaecgmbhpaaDoorM14
/-
  Normal forms: not.
-/
set_option linter.unusedSimpArgs false
namespace Go.Proofs.YtidihaecgmbhpaaDoor
open Go.RowKit Q

set_option maxRecDepth 100000 in
set_option maxHeartbeats 8000000 in
theorem col_not (a : F) (hA : ColP a) : ColP (.u .not a) := by
  intro w c0 c1 c2 h
  obtain ⟨b, p, cap, d0, d1, d2, rfl, rfl, rfl, h0, h1, h2, ht⟩ := kid_u h
  have HA := hid (fun W (hm : Nu w W) => hA W d0 d1 d2 (ht.nu hm))
  obtain ⟨O, hO⟩ : ∃ O, ColOut (.u .not a) w = O := ⟨_, rfl⟩
  rw [hO]
  have HO := hid hO
  have hst := seven7 w (.int .i64 U.not.kind) (.string (strOfL [])) (.slice (some ⟨b, p, none⟩) 1 cap)
  have HST := hid hst
  clear ht hA h hO hst
  simp only [U.kind] at HST ⊢
  go_enter Tryd.func35, Tryd.ntmps35
  go_upto_region 2 with fail
  have hst := HST.out
  clear HST
  generalize hW0 : World.alloc _ _ = W0 at hst ⊢
  have HST := hid hst
  have x2 := (three hst.b1).c2
  have k0 := cell_mv hst.nu h0 id
  have k1 := cell_mv hst.nu h1 id
  have k2 := cell_mv hst.nu h2 id
  clear hst hW0
  go_wp2_with fail
  refine Calls.mono (HA.out _ HST.out.nu) ?_
  rintro e w1 ⟨hm1, a0, a1, a2, n0, n1, n2, rfl, hta, htn⟩
  obtain ⟨ka, sa, oa, la, ca, rfl, rfl, rfl⟩ := hta.cell3
  obtain ⟨kn, sn, on, ln, cn, rfl, rfl, rfl⟩ := htn.cell3
  have HM1 := hid hm1
  have HTA := hid hta
  have HTN := hid htn
  obtain ⟨y0, y1, y2, f0, f1, f2⟩ := three (hm1.heap HST.out.b4 id)
  obtain ⟨z0, z1, z2, g0, g1, g2⟩ := three (hm1.heap HST.out.b6 id)
  replace x2 := cell_mv hm1 x2 id
  clear hm1 hta htn k0 k1 k2
  go_upto_region 4 with fail
  generalize hW2 : World.setCell (World.setCell (World.setCell (World.setCell (World.setCell (World.setCell _ _ _) _ _) _ _) _ _) _ _) _ _ = W2
  have s4 := set3 (HM1.out.heap HST.out.b4 id) (.int .i64 ka) (.string sa) (.slice oa la ca)
  have s6 := set3 (s4.mv.heap (HM1.out.heap HST.out.b6 id) (by omega)) (.int .i64 kn) (.string sn) (.slice on ln cn)
  rw [hW2] at s6
  have H4 := hid s4
  have H6 := hid s6
  have hx2 : W2.cell? ⟨w.heap.size, 2, none⟩ = some (.slice (some ⟨b, p, none⟩) 1 cap) := cell_mv s6.mv (cell_mv s4.mv x2 (by omega)) (by omega)
  have hx0 : W2.cell? ⟨w.heap.size, 0, none⟩ = some (.int .i64 4) := cell_mv s6.mv (cell_mv s4.mv (cell_mv HM1.out (three HST.out.b1).c0 id) (by omega)) (by omega)
  clear s4 s6 hW2 x2 y0 y1 y2 f0 f1 f2 z0 z1 z2 g0 g1 g2
  go_wp2_with fail
  refine Calls.mono (part_any _ _ _ _ _) ?_
  rintro e w3 ⟨rfl, hm3⟩
  have HM3 := hid hm3
  replace hx0 := cell_mv hm3 hx0 id
  have hlt3 : w.heap.size < w3.heap.size := World.block_lt_of_cell? w3 _ hx0
  clear hm3 hx2
  go_wp2_with fail
  refine Calls.mono (part_any _ _ _ _ _) ?_
  rintro e w5 ⟨rfl, hm5⟩
  have HM5 := hid hm5
  replace hx0 := cell_mv (mv0 (Mv.alloc (fun _ => False) w3 _) hm5) hx0 id
  have hlt5 : w.heap.size < w5.heap.size := World.block_lt_of_cell? w5 _ hx0
  clear hm5
  go_upto_region 17 with fail
  generalize hW6 : World.alloc _ _ = W6
  have hn26 : Nu W2 W6 := by rw [← hW6]; exact mv0 (mv0 (mv0 HM3.out (Mv.alloc _ _ _)) HM5.out) (Mv.alloc _ _ _)
  have hs0 : w.heap.size + 1 + 1 + 1 + 1 + 1 + 1 < W0.heap.size := lt_of_block HST.out.b7
  have hs1 := HM1.out.size
  have hs4 := H4.out.sz
  have hs6 := H6.out.sz
  have hs26 := hn26.size
  have hA6 : TIn W6 (fun b => W0.heap.size ≤ b) (.int .i64 ka) (.string sa) (.slice oa la ca) (col true a).t := ((HTA.out.mv H4.out.mv (fun x hx _ e => by omega)).mv H6.out.mv (fun x hx _ e => by omega)).nu hn26
  have b4 := hn26.heap (H6.out.mv.heap H4.out.blk (by omega)) id
  have hN6 : TIn W6 (fun b => W0.heap.size ≤ b) (.int .i64 kn) (.string sn) (.slice on ln cn) (col false a).t := ((HTN.out.mv H4.out.mv (fun x hx _ e => by omega)).mv H6.out.mv (fun x hx _ e => by omega)).nu hn26
  have b6 := hn26.heap H6.out.blk id
  have b2 := hn26.heap (H6.out.mv.heap (H4.out.mv.heap (HM1.out.heap HST.out.b2 id) (by omega)) (by omega)) id
  have b3 := hn26.heap (H6.out.mv.heap (H4.out.mv.heap (HM1.out.heap HST.out.b3 id) (by omega)) (by omega)) id
  have hw6 : Nu w W6 := (((HST.out.nu.trans HM1.out (fun _ h => h.elim)).trans H4.out.mv (fun x hx => .inr (by omega))).trans H6.out.mv (fun x hx => .inr (by omega))).trans hn26 (fun _ h => h.elim)
  rename_i K1 hK1 K2 hK2
  refine wp_plan (P0 := fun b => W0.heap.size ≤ b) (B2 := w.heap.size + 1) (B3 := w.heap.size + 1 + 1) (plan := [.load 58 6 (col false a).t, .load 59 4 (col true a).t, .store 2 58 (col false a).t, .store 3 59 (col true a).t])
    (by kernel_rfl) ?plan (fun x hx => by omega) (fun x hx => by omega) (by omega) ?loads rfl rfl (fun p => by unfold Bp; split; exact ⟨_, _, _, b2⟩; exact ⟨_, _, _, b3⟩) ?post
  case plan =>
    refine isPlan_mk (fun i o ho => ?_) (by rfl)
    have hi : i < 4 := (Array.getElem?_eq_some_iff.1 ho).1
    have : i = 0 ∨ i = 1 ∨ i = 2 ∨ i = 3 := by omega
    rcases this with rfl | rfl | rfl | rfl <;> cases ho
    · exact ⟨_, rfl, rfl, rfl, rfl, trivial, rfl⟩
    · exact ⟨_, rfl, rfl, rfl, rfl, trivial, rfl⟩
    · exact ⟨_, rfl, rfl, rfl, rfl, ⟨⟨0, .data⟩, by simp, rfl, _, rfl, rfl⟩, rfl⟩
    · exact ⟨_, rfl, rfl, rfl, rfl, ⟨⟨1, .data⟩, by simp, rfl, _, rfl, rfl⟩, rfl⟩
  case loads =>
    intro i d s t hi
    have : i < 4 := (List.getElem?_eq_some_iff.1 hi).1
    have : i = 0 ∨ i = 1 ∨ i = 2 ∨ i = 3 := by omega
    rcases this with rfl | rfl | rfl | rfl <;> cases hi
    · exact ⟨_, _, _, _, rfl, b6, by omega, by omega, hN6⟩
    · exact ⟨_, _, _, _, rfl, b4, by omega, by omega, hA6⟩
  case post =>
    intro a' w' hdf h2 h3 hm hst
    obtain ⟨x0, x1, x2, hb2, ht2⟩ := hst 2 2 58 _ (by decide) rfl
    obtain ⟨y0, y1, y2, hb3, ht3⟩ := hst 3 3 59 _ (by decide) rfl
    change Blk w' (w.heap.size + 1) x0 x1 x2 at hb2
    change Blk w' (w.heap.size + 1 + 1) y0 y1 y2 at hb3
    refine hK2 _ _ ?_
    refine wp_ret ?_
    obtain ⟨k2, s2, o2, l2, c2, rfl, rfl, rfl⟩ := ht2.cell3
    obtain ⟨k3, s3, o3, l3, c3, rfl, rfl, rfl⟩ := ht3.cell3
    obtain ⟨p0, p1, p2, _, _, _⟩ := three hb2
    obtain ⟨q0, q1, q2, _, _, _⟩ := three hb3
    refine bodyPost_ret (v := .tuple #[.agg #[.int .i64 k2, .string s2, .slice o2 l2 c2], .agg #[.int .i64 k3, .string s3, .slice o3 l3 c3]]) (by simp [results, Tryd.results35, go_sem, h2, h3, p0, p1, p2, q0, q1, q2]) (by rw [hdf]) ?_
    rw [← HO.out]
    exact ⟨hw6.trans hm (fun x hx => .inr (by omega)), _, _, _, _, _, _, rfl, ht2.mono (fun x hx _ => by omega), ht3.mono (fun x hx _ => by omega)⟩

end Go.Proofs.YtidihaecgmbhpaaDoor
/-
  Normal forms: next.
-/
set_option linter.unusedSimpArgs false
namespace Go.Proofs.YtidihaecgmbhpaaDoor
open Go.RowKit Q

set_option maxRecDepth 100000 in
set_option maxHeartbeats 8000000 in
theorem col_next (a : F) (hA : ColP a) : ColP (.u .next a) := by
  intro w c0 c1 c2 h
  obtain ⟨b, p, cap, d0, d1, d2, rfl, rfl, rfl, h0, h1, h2, ht⟩ := kid_u h
  have HA := hid (fun W (hm : Nu w W) => hA W d0 d1 d2 (ht.nu hm))
  obtain ⟨O, hO⟩ : ∃ O, ColOut (.u .next a) w = O := ⟨_, rfl⟩
  rw [hO]
  have HO := hid hO
  have hst := seven7 w (.int .i64 U.next.kind) (.string (strOfL [])) (.slice (some ⟨b, p, none⟩) 1 cap)
  have HST := hid hst
  clear ht hA h hO hst
  simp only [U.kind] at HST ⊢
  go_enter Tryd.func35, Tryd.ntmps35
  go_upto_region 2 with fail
  have hst := HST.out
  clear HST
  generalize hW0 : World.alloc _ _ = W0 at hst ⊢
  have HST := hid hst
  have x2 := (three hst.b1).c2
  have k0 := cell_mv hst.nu h0 id
  have k1 := cell_mv hst.nu h1 id
  have k2 := cell_mv hst.nu h2 id
  clear hst hW0
  go_wp2_with fail
  refine Calls.mono (HA.out _ HST.out.nu) ?_
  rintro e w1 ⟨hm1, a0, a1, a2, n0, n1, n2, rfl, hta, htn⟩
  obtain ⟨ka, sa, oa, la, ca, rfl, rfl, rfl⟩ := hta.cell3
  obtain ⟨kn, sn, on, ln, cn, rfl, rfl, rfl⟩ := htn.cell3
  have HM1 := hid hm1
  have HTA := hid hta
  have HTN := hid htn
  obtain ⟨y0, y1, y2, f0, f1, f2⟩ := three (hm1.heap HST.out.b4 id)
  obtain ⟨z0, z1, z2, g0, g1, g2⟩ := three (hm1.heap HST.out.b6 id)
  replace x2 := cell_mv hm1 x2 id
  clear hm1 hta htn k0 k1 k2
  go_upto_region 4 with fail
  generalize hW2 : World.setCell (World.setCell (World.setCell (World.setCell (World.setCell (World.setCell _ _ _) _ _) _ _) _ _) _ _) _ _ = W2
  have s4 := set3 (HM1.out.heap HST.out.b4 id) (.int .i64 ka) (.string sa) (.slice oa la ca)
  have s6 := set3 (s4.mv.heap (HM1.out.heap HST.out.b6 id) (by omega)) (.int .i64 kn) (.string sn) (.slice on ln cn)
  rw [hW2] at s6
  have H4 := hid s4
  have H6 := hid s6
  have hx2 : W2.cell? ⟨w.heap.size, 2, none⟩ = some (.slice (some ⟨b, p, none⟩) 1 cap) := cell_mv s6.mv (cell_mv s4.mv x2 (by omega)) (by omega)
  have hx0 : W2.cell? ⟨w.heap.size, 0, none⟩ = some (.int .i64 5) := cell_mv s6.mv (cell_mv s4.mv (cell_mv HM1.out (three HST.out.b1).c0 id) (by omega)) (by omega)
  clear s4 s6 hW2 x2 y0 y1 y2 f0 f1 f2 z0 z1 z2 g0 g1 g2
  go_wp2_with fail
  refine Calls.mono (part_any _ _ _ _ _) ?_
  rintro e w3 ⟨rfl, hm3⟩
  have HM3 := hid hm3
  replace hx0 := cell_mv hm3 hx0 id
  have hlt3 : w.heap.size < w3.heap.size := World.block_lt_of_cell? w3 _ hx0
  clear hm3 hx2
  go_wp2_with fail
  refine Calls.mono (part_any _ _ _ _ _) ?_
  rintro e w5 ⟨rfl, hm5⟩
  have HM5 := hid hm5
  replace hx0 := cell_mv (mv0 (Mv.alloc (fun _ => False) w3 _) hm5) hx0 id
  have hlt5 : w.heap.size < w5.heap.size := World.block_lt_of_cell? w5 _ hx0
  clear hm5
  go_upto_region 19 with fail
  generalize hW6 : World.alloc _ _ = W6
  have hn26 : Nu W2 W6 := by rw [← hW6]; exact mv0 (mv0 (mv0 HM3.out (Mv.alloc _ _ _)) HM5.out) (Mv.alloc _ _ _)
  have hs0 : w.heap.size + 1 + 1 + 1 + 1 + 1 + 1 < W0.heap.size := lt_of_block HST.out.b7
  have hs1 := HM1.out.size
  have hs4 := H4.out.sz
  have hs6 := H6.out.sz
  have hs26 := hn26.size
  have hA6 : TIn W6 (fun b => W0.heap.size ≤ b) (.int .i64 ka) (.string sa) (.slice oa la ca) (col true a).t := ((HTA.out.mv H4.out.mv (fun x hx _ e => by omega)).mv H6.out.mv (fun x hx _ e => by omega)).nu hn26
  have b4 := hn26.heap (H6.out.mv.heap H4.out.blk (by omega)) id
  have hN6 : TIn W6 (fun b => W0.heap.size ≤ b) (.int .i64 kn) (.string sn) (.slice on ln cn) (col false a).t := ((HTN.out.mv H4.out.mv (fun x hx _ e => by omega)).mv H6.out.mv (fun x hx _ e => by omega)).nu hn26
  have b6 := hn26.heap H6.out.blk id
  have b2 := hn26.heap (H6.out.mv.heap (H4.out.mv.heap (HM1.out.heap HST.out.b2 id) (by omega)) (by omega)) id
  have b3 := hn26.heap (H6.out.mv.heap (H4.out.mv.heap (HM1.out.heap HST.out.b3 id) (by omega)) (by omega)) id
  have hw6 : Nu w W6 := (((HST.out.nu.trans HM1.out (fun _ h => h.elim)).trans H4.out.mv (fun x hx => .inr (by omega))).trans H6.out.mv (fun x hx => .inr (by omega))).trans hn26 (fun _ h => h.elim)
  rename_i K1 hK1 K2 hK2
  refine wp_plan (P0 := fun b => W0.heap.size ≤ b) (B2 := w.heap.size + 1) (B3 := w.heap.size + 1 + 1) (plan := [.load 62 4 (col true a).t, .bs1 63 62 (col true a).t, .call 64 5 63 [(col true a).t], .load 65 6 (col false a).t, .bs1 66 65 (col false a).t, .call 67 5 66 [(col false a).t], .store 2 64 (.mk 5 [] [(col true a).t]), .store 3 67 (.mk 5 [] [(col false a).t])])
    (by kernel_rfl) ?plan (fun x hx => by omega) (fun x hx => by omega) (by omega) ?loads rfl rfl (fun p => by unfold Bp; split; exact ⟨_, _, _, b2⟩; exact ⟨_, _, _, b3⟩) ?post
  case plan =>
    refine isPlan_mk (fun i o ho => ?_) (by rfl)
    have hi : i < 8 := (Array.getElem?_eq_some_iff.1 ho).1
    have : i = 0 ∨ i = 1 ∨ i = 2 ∨ i = 3 ∨ i = 4 ∨ i = 5 ∨ i = 6 ∨ i = 7 := by omega
    rcases this with rfl | rfl | rfl | rfl | rfl | rfl | rfl | rfl <;> cases ho
    · exact ⟨_, rfl, rfl, rfl, rfl, trivial, rfl⟩
    · exact ⟨_, rfl, rfl, rfl, rfl, ⟨⟨0, .data⟩, by simp, rfl, _, rfl, rfl⟩, rfl⟩
    · exact ⟨_, rfl, rfl, rfl, rfl, ⟨⟨⟨1, .data⟩, by simp, rfl, _, rfl, rfl⟩, by decide⟩, rfl⟩
    · exact ⟨_, rfl, rfl, rfl, rfl, trivial, rfl⟩
    · exact ⟨_, rfl, rfl, rfl, rfl, ⟨⟨3, .data⟩, by simp, rfl, _, rfl, rfl⟩, rfl⟩
    · exact ⟨_, rfl, rfl, rfl, rfl, ⟨⟨⟨4, .data⟩, by simp, rfl, _, rfl, rfl⟩, by decide⟩, rfl⟩
    · exact ⟨_, rfl, rfl, rfl, rfl, ⟨⟨2, .data⟩, by simp, rfl, _, rfl, rfl⟩, rfl⟩
    · exact ⟨_, rfl, rfl, rfl, rfl, ⟨⟨5, .data⟩, by simp, rfl, _, rfl, rfl⟩, rfl⟩
  case loads =>
    intro i d s t hi
    have : i < 8 := (List.getElem?_eq_some_iff.1 hi).1
    have : i = 0 ∨ i = 1 ∨ i = 2 ∨ i = 3 ∨ i = 4 ∨ i = 5 ∨ i = 6 ∨ i = 7 := by omega
    rcases this with rfl | rfl | rfl | rfl | rfl | rfl | rfl | rfl <;> cases hi
    · exact ⟨_, _, _, _, rfl, b4, by omega, by omega, hA6⟩
    · exact ⟨_, _, _, _, rfl, b6, by omega, by omega, hN6⟩
  case post =>
    intro a' w' hdf h2 h3 hm hst
    obtain ⟨x0, x1, x2, hb2, ht2⟩ := hst 6 2 64 _ (by decide) rfl
    obtain ⟨y0, y1, y2, hb3, ht3⟩ := hst 7 3 67 _ (by decide) rfl
    change Blk w' (w.heap.size + 1) x0 x1 x2 at hb2
    change Blk w' (w.heap.size + 1 + 1) y0 y1 y2 at hb3
    refine hK2 _ _ ?_
    refine wp_ret ?_
    obtain ⟨k2, s2, o2, l2, c2, rfl, rfl, rfl⟩ := ht2.cell3
    obtain ⟨k3, s3, o3, l3, c3, rfl, rfl, rfl⟩ := ht3.cell3
    obtain ⟨p0, p1, p2, _, _, _⟩ := three hb2
    obtain ⟨q0, q1, q2, _, _, _⟩ := three hb3
    refine bodyPost_ret (v := .tuple #[.agg #[.int .i64 k2, .string s2, .slice o2 l2 c2], .agg #[.int .i64 k3, .string s3, .slice o3 l3 c3]]) (by simp [results, Tryd.results35, go_sem, h2, h3, p0, p1, p2, q0, q1, q2]) (by rw [hdf]) ?_
    rw [← HO.out]
    exact ⟨hw6.trans hm (fun x hx => .inr (by omega)), _, _, _, _, _, _, rfl, ht2.mono (fun x hx _ => by omega), ht3.mono (fun x hx _ => by omega)⟩

end Go.Proofs.YtidihaecgmbhpaaDoor
/-
  Normal forms: always.
-/
set_option linter.unusedSimpArgs false
namespace Go.Proofs.YtidihaecgmbhpaaDoor
open Go.RowKit Q

set_option maxRecDepth 100000 in
set_option maxHeartbeats 8000000 in
theorem col_always (a : F) (hA : ColP a) : ColP (.u .always a) := by
  intro w c0 c1 c2 h
  obtain ⟨b, p, cap, d0, d1, d2, rfl, rfl, rfl, h0, h1, h2, ht⟩ := kid_u h
  have HA := hid (fun W (hm : Nu w W) => hA W d0 d1 d2 (ht.nu hm))
  obtain ⟨O, hO⟩ : ∃ O, ColOut (.u .always a) w = O := ⟨_, rfl⟩
  rw [hO]
  have HO := hid hO
  have hst := seven7 w (.int .i64 U.always.kind) (.string (strOfL [])) (.slice (some ⟨b, p, none⟩) 1 cap)
  have HST := hid hst
  clear ht hA h hO hst
  simp only [U.kind] at HST ⊢
  go_enter Tryd.func35, Tryd.ntmps35
  go_upto_region 2 with fail
  have hst := HST.out
  clear HST
  generalize hW0 : World.alloc _ _ = W0 at hst ⊢
  have HST := hid hst
  have x2 := (three hst.b1).c2
  have k0 := cell_mv hst.nu h0 id
  have k1 := cell_mv hst.nu h1 id
  have k2 := cell_mv hst.nu h2 id
  clear hst hW0
  go_wp2_with fail
  refine Calls.mono (HA.out _ HST.out.nu) ?_
  rintro e w1 ⟨hm1, a0, a1, a2, n0, n1, n2, rfl, hta, htn⟩
  obtain ⟨ka, sa, oa, la, ca, rfl, rfl, rfl⟩ := hta.cell3
  obtain ⟨kn, sn, on, ln, cn, rfl, rfl, rfl⟩ := htn.cell3
  have HM1 := hid hm1
  have HTA := hid hta
  have HTN := hid htn
  obtain ⟨y0, y1, y2, f0, f1, f2⟩ := three (hm1.heap HST.out.b4 id)
  obtain ⟨z0, z1, z2, g0, g1, g2⟩ := three (hm1.heap HST.out.b6 id)
  replace x2 := cell_mv hm1 x2 id
  clear hm1 hta htn k0 k1 k2
  go_upto_region 4 with fail
  generalize hW2 : World.setCell (World.setCell (World.setCell (World.setCell (World.setCell (World.setCell _ _ _) _ _) _ _) _ _) _ _) _ _ = W2
  have s4 := set3 (HM1.out.heap HST.out.b4 id) (.int .i64 ka) (.string sa) (.slice oa la ca)
  have s6 := set3 (s4.mv.heap (HM1.out.heap HST.out.b6 id) (by omega)) (.int .i64 kn) (.string sn) (.slice on ln cn)
  rw [hW2] at s6
  have H4 := hid s4
  have H6 := hid s6
  have hx2 : W2.cell? ⟨w.heap.size, 2, none⟩ = some (.slice (some ⟨b, p, none⟩) 1 cap) := cell_mv s6.mv (cell_mv s4.mv x2 (by omega)) (by omega)
  have hx0 : W2.cell? ⟨w.heap.size, 0, none⟩ = some (.int .i64 6) := cell_mv s6.mv (cell_mv s4.mv (cell_mv HM1.out (three HST.out.b1).c0 id) (by omega)) (by omega)
  clear s4 s6 hW2 x2 y0 y1 y2 f0 f1 f2 z0 z1 z2 g0 g1 g2
  go_wp2_with fail
  refine Calls.mono (part_any _ _ _ _ _) ?_
  rintro e w3 ⟨rfl, hm3⟩
  have HM3 := hid hm3
  replace hx0 := cell_mv hm3 hx0 id
  have hlt3 : w.heap.size < w3.heap.size := World.block_lt_of_cell? w3 _ hx0
  clear hm3 hx2
  go_wp2_with fail
  refine Calls.mono (part_any _ _ _ _ _) ?_
  rintro e w5 ⟨rfl, hm5⟩
  have HM5 := hid hm5
  replace hx0 := cell_mv (mv0 (Mv.alloc (fun _ => False) w3 _) hm5) hx0 id
  have hlt5 : w.heap.size < w5.heap.size := World.block_lt_of_cell? w5 _ hx0
  clear hm5
  go_upto_region 21 with fail
  generalize hW6 : World.alloc _ _ = W6
  have hn26 : Nu W2 W6 := by rw [← hW6]; exact mv0 (mv0 (mv0 HM3.out (Mv.alloc _ _ _)) HM5.out) (Mv.alloc _ _ _)
  have hs0 : w.heap.size + 1 + 1 + 1 + 1 + 1 + 1 < W0.heap.size := lt_of_block HST.out.b7
  have hs1 := HM1.out.size
  have hs4 := H4.out.sz
  have hs6 := H6.out.sz
  have hs26 := hn26.size
  have hs3 := HM3.out.size
  have hs9 := (mv0 (Mv.alloc (fun _ => False) w3 _) HM5.out).size
  have hA6 : TIn W6 (fun b => W0.heap.size ≤ b) (.int .i64 ka) (.string sa) (.slice oa la ca) (col true a).t := ((HTA.out.mv H4.out.mv (fun x hx _ e => by omega)).mv H6.out.mv (fun x hx _ e => by omega)).nu hn26
  have b4 := hn26.heap (H6.out.mv.heap H4.out.blk (by omega)) id
  have hN6 : TIn W6 (fun b => W0.heap.size ≤ b) (.int .i64 kn) (.string sn) (.slice on ln cn) (col false a).t := ((HTN.out.mv H4.out.mv (fun x hx _ e => by omega)).mv H6.out.mv (fun x hx _ e => by omega)).nu hn26
  have b6 := hn26.heap H6.out.blk id
  have b8 : Blk W6 w3.heap.size (.int .i64 1) (.string (strOfL [])) (.slice none 0 0) := by rw [← hW6]; exact (Mv.alloc (fun _ => False) _ _).heap (HM5.out.heap (heap_alloc_new _ _) id) id
  have leaf1 : TIn W6 (fun b => W0.heap.size ≤ b) (.int .i64 1) (.string (strOfL [])) (.slice none 0 0) (.mk 1 [] []) := .leaf 1 [] none 0 (by decide) (by decide)
  have b9 : Blk W6 w5.heap.size (.int .i64 2) (.string (strOfL [])) (.slice none 0 0) := by rw [← hW6]; exact heap_alloc_new _ _
  have leaf2 : TIn W6 (fun b => W0.heap.size ≤ b) (.int .i64 2) (.string (strOfL [])) (.slice none 0 0) (.mk 2 [] []) := .leaf 2 [] none 0 (by decide) (by decide)
  have b2 := hn26.heap (H6.out.mv.heap (H4.out.mv.heap (HM1.out.heap HST.out.b2 id) (by omega)) (by omega)) id
  have b3 := hn26.heap (H6.out.mv.heap (H4.out.mv.heap (HM1.out.heap HST.out.b3 id) (by omega)) (by omega)) id
  have hw6 : Nu w W6 := (((HST.out.nu.trans HM1.out (fun _ h => h.elim)).trans H4.out.mv (fun x hx => .inr (by omega))).trans H6.out.mv (fun x hx => .inr (by omega))).trans hn26 (fun _ h => h.elim)
  rename_i K1 hK1 K2 hK2
  refine wp_plan (P0 := fun b => W0.heap.size ≤ b) (B2 := w.heap.size + 1) (B3 := w.heap.size + 1 + 1) (plan := [.load 70 9 (.mk 2 [] []), .load 71 4 (col true a).t, .bs2 72 70 71 (.mk 2 [] []) (col true a).t, .call 73 13 72 [(.mk 2 [] []), (col true a).t], .load 74 8 (.mk 1 [] []), .load 75 6 (col false a).t, .bs2 76 74 75 (.mk 1 [] []) (col false a).t, .call 77 12 76 [(.mk 1 [] []), (col false a).t], .store 2 73 (.mk 13 [] [(.mk 2 [] []), (col true a).t]), .store 3 77 (.mk 12 [] [(.mk 1 [] []), (col false a).t])])
    (by kernel_rfl) ?plan (fun x hx => by omega) (fun x hx => by omega) (by omega) ?loads rfl rfl (fun p => by unfold Bp; split; exact ⟨_, _, _, b2⟩; exact ⟨_, _, _, b3⟩) ?post
  case plan =>
    refine isPlan_mk (fun i o ho => ?_) (by rfl)
    have hi : i < 10 := (Array.getElem?_eq_some_iff.1 ho).1
    have : i = 0 ∨ i = 1 ∨ i = 2 ∨ i = 3 ∨ i = 4 ∨ i = 5 ∨ i = 6 ∨ i = 7 ∨ i = 8 ∨ i = 9 := by omega
    rcases this with rfl | rfl | rfl | rfl | rfl | rfl | rfl | rfl | rfl | rfl <;> cases ho
    · exact ⟨_, rfl, rfl, rfl, rfl, trivial, rfl⟩
    · exact ⟨_, rfl, rfl, rfl, rfl, trivial, rfl⟩
    · exact ⟨_, rfl, rfl, rfl, rfl, ⟨⟨⟨0, .data⟩, by simp, rfl, _, rfl, rfl⟩, ⟨⟨1, .data⟩, by simp, rfl, _, rfl, rfl⟩⟩, rfl⟩
    · exact ⟨_, rfl, rfl, rfl, rfl, ⟨⟨⟨2, .data⟩, by simp, rfl, _, rfl, rfl⟩, by decide⟩, rfl⟩
    · exact ⟨_, rfl, rfl, rfl, rfl, trivial, rfl⟩
    · exact ⟨_, rfl, rfl, rfl, rfl, trivial, rfl⟩
    · exact ⟨_, rfl, rfl, rfl, rfl, ⟨⟨⟨4, .data⟩, by simp, rfl, _, rfl, rfl⟩, ⟨⟨5, .data⟩, by simp, rfl, _, rfl, rfl⟩⟩, rfl⟩
    · exact ⟨_, rfl, rfl, rfl, rfl, ⟨⟨⟨6, .data⟩, by simp, rfl, _, rfl, rfl⟩, by decide⟩, rfl⟩
    · exact ⟨_, rfl, rfl, rfl, rfl, ⟨⟨3, .data⟩, by simp, rfl, _, rfl, rfl⟩, rfl⟩
    · exact ⟨_, rfl, rfl, rfl, rfl, ⟨⟨7, .data⟩, by simp, rfl, _, rfl, rfl⟩, rfl⟩
  case loads =>
    intro i d s t hi
    have : i < 10 := (List.getElem?_eq_some_iff.1 hi).1
    have : i = 0 ∨ i = 1 ∨ i = 2 ∨ i = 3 ∨ i = 4 ∨ i = 5 ∨ i = 6 ∨ i = 7 ∨ i = 8 ∨ i = 9 := by omega
    rcases this with rfl | rfl | rfl | rfl | rfl | rfl | rfl | rfl | rfl | rfl <;> cases hi
    · exact ⟨_, _, _, _, rfl, b9, by omega, by omega, leaf2⟩
    · exact ⟨_, _, _, _, rfl, b4, by omega, by omega, hA6⟩
    · exact ⟨_, _, _, _, rfl, b8, by omega, by omega, leaf1⟩
    · exact ⟨_, _, _, _, rfl, b6, by omega, by omega, hN6⟩
  case post =>
    intro a' w' hdf h2 h3 hm hst
    obtain ⟨x0, x1, x2, hb2, ht2⟩ := hst 8 2 73 _ (by decide) rfl
    obtain ⟨y0, y1, y2, hb3, ht3⟩ := hst 9 3 77 _ (by decide) rfl
    change Blk w' (w.heap.size + 1) x0 x1 x2 at hb2
    change Blk w' (w.heap.size + 1 + 1) y0 y1 y2 at hb3
    refine hK2 _ _ ?_
    refine wp_ret ?_
    obtain ⟨k2, s2, o2, l2, c2, rfl, rfl, rfl⟩ := ht2.cell3
    obtain ⟨k3, s3, o3, l3, c3, rfl, rfl, rfl⟩ := ht3.cell3
    obtain ⟨p0, p1, p2, _, _, _⟩ := three hb2
    obtain ⟨q0, q1, q2, _, _, _⟩ := three hb3
    refine bodyPost_ret (v := .tuple #[.agg #[.int .i64 k2, .string s2, .slice o2 l2 c2], .agg #[.int .i64 k3, .string s3, .slice o3 l3 c3]]) (by simp [results, Tryd.results35, go_sem, h2, h3, p0, p1, p2, q0, q1, q2]) (by rw [hdf]) ?_
    rw [← HO.out]
    exact ⟨hw6.trans hm (fun x hx => .inr (by omega)), _, _, _, _, _, _, rfl, ht2.mono (fun x hx _ => by omega), ht3.mono (fun x hx _ => by omega)⟩

end Go.Proofs.YtidihaecgmbhpaaDoor
/-
  Normal forms: fin.
-/
set_option linter.unusedSimpArgs false
namespace Go.Proofs.YtidihaecgmbhpaaDoor
open Go.RowKit Q

set_option maxRecDepth 100000 in
set_option maxHeartbeats 8000000 in
theorem col_fin (a : F) (hA : ColP a) : ColP (.u .fin a) := by
  intro w c0 c1 c2 h
  obtain ⟨b, p, cap, d0, d1, d2, rfl, rfl, rfl, h0, h1, h2, ht⟩ := kid_u h
  have HA := hid (fun W (hm : Nu w W) => hA W d0 d1 d2 (ht.nu hm))
  obtain ⟨O, hO⟩ : ∃ O, ColOut (.u .fin a) w = O := ⟨_, rfl⟩
  rw [hO]
  have HO := hid hO
  have hst := seven7 w (.int .i64 U.fin.kind) (.string (strOfL [])) (.slice (some ⟨b, p, none⟩) 1 cap)
  have HST := hid hst
  clear ht hA h hO hst
  simp only [U.kind] at HST ⊢
  go_enter Tryd.func35, Tryd.ntmps35
  go_upto_region 2 with fail
  have hst := HST.out
  clear HST
  generalize hW0 : World.alloc _ _ = W0 at hst ⊢
  have HST := hid hst
  have x2 := (three hst.b1).c2
  have k0 := cell_mv hst.nu h0 id
  have k1 := cell_mv hst.nu h1 id
  have k2 := cell_mv hst.nu h2 id
  clear hst hW0
  go_wp2_with fail
  refine Calls.mono (HA.out _ HST.out.nu) ?_
  rintro e w1 ⟨hm1, a0, a1, a2, n0, n1, n2, rfl, hta, htn⟩
  obtain ⟨ka, sa, oa, la, ca, rfl, rfl, rfl⟩ := hta.cell3
  obtain ⟨kn, sn, on, ln, cn, rfl, rfl, rfl⟩ := htn.cell3
  have HM1 := hid hm1
  have HTA := hid hta
  have HTN := hid htn
  obtain ⟨y0, y1, y2, f0, f1, f2⟩ := three (hm1.heap HST.out.b4 id)
  obtain ⟨z0, z1, z2, g0, g1, g2⟩ := three (hm1.heap HST.out.b6 id)
  replace x2 := cell_mv hm1 x2 id
  clear hm1 hta htn k0 k1 k2
  go_upto_region 4 with fail
  generalize hW2 : World.setCell (World.setCell (World.setCell (World.setCell (World.setCell (World.setCell _ _ _) _ _) _ _) _ _) _ _) _ _ = W2
  have s4 := set3 (HM1.out.heap HST.out.b4 id) (.int .i64 ka) (.string sa) (.slice oa la ca)
  have s6 := set3 (s4.mv.heap (HM1.out.heap HST.out.b6 id) (by omega)) (.int .i64 kn) (.string sn) (.slice on ln cn)
  rw [hW2] at s6
  have H4 := hid s4
  have H6 := hid s6
  have hx2 : W2.cell? ⟨w.heap.size, 2, none⟩ = some (.slice (some ⟨b, p, none⟩) 1 cap) := cell_mv s6.mv (cell_mv s4.mv x2 (by omega)) (by omega)
  have hx0 : W2.cell? ⟨w.heap.size, 0, none⟩ = some (.int .i64 7) := cell_mv s6.mv (cell_mv s4.mv (cell_mv HM1.out (three HST.out.b1).c0 id) (by omega)) (by omega)
  clear s4 s6 hW2 x2 y0 y1 y2 f0 f1 f2 z0 z1 z2 g0 g1 g2
  go_wp2_with fail
  refine Calls.mono (part_any _ _ _ _ _) ?_
  rintro e w3 ⟨rfl, hm3⟩
  have HM3 := hid hm3
  replace hx0 := cell_mv hm3 hx0 id
  have hlt3 : w.heap.size < w3.heap.size := World.block_lt_of_cell? w3 _ hx0
  clear hm3 hx2
  go_wp2_with fail
  refine Calls.mono (part_any _ _ _ _ _) ?_
  rintro e w5 ⟨rfl, hm5⟩
  have HM5 := hid hm5
  replace hx0 := cell_mv (mv0 (Mv.alloc (fun _ => False) w3 _) hm5) hx0 id
  have hlt5 : w.heap.size < w5.heap.size := World.block_lt_of_cell? w5 _ hx0
  clear hm5
  go_upto_region 23 with fail
  generalize hW6 : World.alloc _ _ = W6
  have hn26 : Nu W2 W6 := by rw [← hW6]; exact mv0 (mv0 (mv0 HM3.out (Mv.alloc _ _ _)) HM5.out) (Mv.alloc _ _ _)
  have hs0 : w.heap.size + 1 + 1 + 1 + 1 + 1 + 1 < W0.heap.size := lt_of_block HST.out.b7
  have hs1 := HM1.out.size
  have hs4 := H4.out.sz
  have hs6 := H6.out.sz
  have hs26 := hn26.size
  have hs3 := HM3.out.size
  have hs9 := (mv0 (Mv.alloc (fun _ => False) w3 _) HM5.out).size
  have hA6 : TIn W6 (fun b => W0.heap.size ≤ b) (.int .i64 ka) (.string sa) (.slice oa la ca) (col true a).t := ((HTA.out.mv H4.out.mv (fun x hx _ e => by omega)).mv H6.out.mv (fun x hx _ e => by omega)).nu hn26
  have b4 := hn26.heap (H6.out.mv.heap H4.out.blk (by omega)) id
  have hN6 : TIn W6 (fun b => W0.heap.size ≤ b) (.int .i64 kn) (.string sn) (.slice on ln cn) (col false a).t := ((HTN.out.mv H4.out.mv (fun x hx _ e => by omega)).mv H6.out.mv (fun x hx _ e => by omega)).nu hn26
  have b6 := hn26.heap H6.out.blk id
  have b8 : Blk W6 w3.heap.size (.int .i64 1) (.string (strOfL [])) (.slice none 0 0) := by rw [← hW6]; exact (Mv.alloc (fun _ => False) _ _).heap (HM5.out.heap (heap_alloc_new _ _) id) id
  have leaf1 : TIn W6 (fun b => W0.heap.size ≤ b) (.int .i64 1) (.string (strOfL [])) (.slice none 0 0) (.mk 1 [] []) := .leaf 1 [] none 0 (by decide) (by decide)
  have b9 : Blk W6 w5.heap.size (.int .i64 2) (.string (strOfL [])) (.slice none 0 0) := by rw [← hW6]; exact heap_alloc_new _ _
  have leaf2 : TIn W6 (fun b => W0.heap.size ≤ b) (.int .i64 2) (.string (strOfL [])) (.slice none 0 0) (.mk 2 [] []) := .leaf 2 [] none 0 (by decide) (by decide)
  have b2 := hn26.heap (H6.out.mv.heap (H4.out.mv.heap (HM1.out.heap HST.out.b2 id) (by omega)) (by omega)) id
  have b3 := hn26.heap (H6.out.mv.heap (H4.out.mv.heap (HM1.out.heap HST.out.b3 id) (by omega)) (by omega)) id
  have hw6 : Nu w W6 := (((HST.out.nu.trans HM1.out (fun _ h => h.elim)).trans H4.out.mv (fun x hx => .inr (by omega))).trans H6.out.mv (fun x hx => .inr (by omega))).trans hn26 (fun _ h => h.elim)
  rename_i K1 hK1 K2 hK2
  refine wp_plan (P0 := fun b => W0.heap.size ≤ b) (B2 := w.heap.size + 1) (B3 := w.heap.size + 1 + 1) (plan := [.load 80 8 (.mk 1 [] []), .load 81 4 (col true a).t, .bs2 82 80 81 (.mk 1 [] []) (col true a).t, .call 83 12 82 [(.mk 1 [] []), (col true a).t], .load 84 9 (.mk 2 [] []), .load 85 6 (col false a).t, .bs2 86 84 85 (.mk 2 [] []) (col false a).t, .call 87 13 86 [(.mk 2 [] []), (col false a).t], .store 2 83 (.mk 12 [] [(.mk 1 [] []), (col true a).t]), .store 3 87 (.mk 13 [] [(.mk 2 [] []), (col false a).t])])
    (by kernel_rfl) ?plan (fun x hx => by omega) (fun x hx => by omega) (by omega) ?loads rfl rfl (fun p => by unfold Bp; split; exact ⟨_, _, _, b2⟩; exact ⟨_, _, _, b3⟩) ?post
  case plan =>
    refine isPlan_mk (fun i o ho => ?_) (by rfl)
    have hi : i < 10 := (Array.getElem?_eq_some_iff.1 ho).1
    have : i = 0 ∨ i = 1 ∨ i = 2 ∨ i = 3 ∨ i = 4 ∨ i = 5 ∨ i = 6 ∨ i = 7 ∨ i = 8 ∨ i = 9 := by omega
    rcases this with rfl | rfl | rfl | rfl | rfl | rfl | rfl | rfl | rfl | rfl <;> cases ho
    · exact ⟨_, rfl, rfl, rfl, rfl, trivial, rfl⟩
    · exact ⟨_, rfl, rfl, rfl, rfl, trivial, rfl⟩
    · exact ⟨_, rfl, rfl, rfl, rfl, ⟨⟨⟨0, .data⟩, by simp, rfl, _, rfl, rfl⟩, ⟨⟨1, .data⟩, by simp, rfl, _, rfl, rfl⟩⟩, rfl⟩
    · exact ⟨_, rfl, rfl, rfl, rfl, ⟨⟨⟨2, .data⟩, by simp, rfl, _, rfl, rfl⟩, by decide⟩, rfl⟩
    · exact ⟨_, rfl, rfl, rfl, rfl, trivial, rfl⟩
    · exact ⟨_, rfl, rfl, rfl, rfl, trivial, rfl⟩
    · exact ⟨_, rfl, rfl, rfl, rfl, ⟨⟨⟨4, .data⟩, by simp, rfl, _, rfl, rfl⟩, ⟨⟨5, .data⟩, by simp, rfl, _, rfl, rfl⟩⟩, rfl⟩
    · exact ⟨_, rfl, rfl, rfl, rfl, ⟨⟨⟨6, .data⟩, by simp, rfl, _, rfl, rfl⟩, by decide⟩, rfl⟩
    · exact ⟨_, rfl, rfl, rfl, rfl, ⟨⟨3, .data⟩, by simp, rfl, _, rfl, rfl⟩, rfl⟩
    · exact ⟨_, rfl, rfl, rfl, rfl, ⟨⟨7, .data⟩, by simp, rfl, _, rfl, rfl⟩, rfl⟩
  case loads =>
    intro i d s t hi
    have : i < 10 := (List.getElem?_eq_some_iff.1 hi).1
    have : i = 0 ∨ i = 1 ∨ i = 2 ∨ i = 3 ∨ i = 4 ∨ i = 5 ∨ i = 6 ∨ i = 7 ∨ i = 8 ∨ i = 9 := by omega
    rcases this with rfl | rfl | rfl | rfl | rfl | rfl | rfl | rfl | rfl | rfl <;> cases hi
    · exact ⟨_, _, _, _, rfl, b8, by omega, by omega, leaf1⟩
    · exact ⟨_, _, _, _, rfl, b4, by omega, by omega, hA6⟩
    · exact ⟨_, _, _, _, rfl, b9, by omega, by omega, leaf2⟩
    · exact ⟨_, _, _, _, rfl, b6, by omega, by omega, hN6⟩
  case post =>
    intro a' w' hdf h2 h3 hm hst
    obtain ⟨x0, x1, x2, hb2, ht2⟩ := hst 8 2 83 _ (by decide) rfl
    obtain ⟨y0, y1, y2, hb3, ht3⟩ := hst 9 3 87 _ (by decide) rfl
    change Blk w' (w.heap.size + 1) x0 x1 x2 at hb2
    change Blk w' (w.heap.size + 1 + 1) y0 y1 y2 at hb3
    refine hK2 _ _ ?_
    refine wp_ret ?_
    obtain ⟨k2, s2, o2, l2, c2, rfl, rfl, rfl⟩ := ht2.cell3
    obtain ⟨k3, s3, o3, l3, c3, rfl, rfl, rfl⟩ := ht3.cell3
    obtain ⟨p0, p1, p2, _, _, _⟩ := three hb2
    obtain ⟨q0, q1, q2, _, _, _⟩ := three hb3
    refine bodyPost_ret (v := .tuple #[.agg #[.int .i64 k2, .string s2, .slice o2 l2 c2], .agg #[.int .i64 k3, .string s3, .slice o3 l3 c3]]) (by simp [results, Tryd.results35, go_sem, h2, h3, p0, p1, p2, q0, q1, q2]) (by rw [hdf]) ?_
    rw [← HO.out]
    exact ⟨hw6.trans hm (fun x hx => .inr (by omega)), _, _, _, _, _, _, rfl, ht2.mono (fun x hx _ => by omega), ht3.mono (fun x hx _ => by omega)⟩

end Go.Proofs.YtidihaecgmbhpaaDoor
/-
  Normal forms: and.
-/
set_option linter.unusedSimpArgs false
namespace Go.Proofs.YtidihaecgmbhpaaDoor
open Go.RowKit Q

set_option maxRecDepth 100000 in
set_option maxHeartbeats 8000000 in
theorem col_and (a c : F) (hA : ColP a) (hC : ColP c) : ColP (.b .and a c) := by
  intro w c0 c1 c2 h
  obtain ⟨b, p, cap, d0, d1, d2, i0, i1, i2, rfl, rfl, rfl, h0, h1, h2, ht, j0, j1, j2, htc⟩ := kid_b h
  have HA := hid (fun W (hm : Nu w W) => hA W d0 d1 d2 (ht.nu hm))
  have HC := hid (fun W (hm : Nu w W) => hC W i0 i1 i2 (htc.nu hm))
  have HJ := hid (And.intro j0 (And.intro j1 j2))
  obtain ⟨O, hO⟩ : ∃ O, ColOut (.b .and a c) w = O := ⟨_, rfl⟩
  rw [hO]
  have HO := hid hO
  have hst := seven7 w (.int .i64 B.and.kind) (.string (strOfL [])) (.slice (some ⟨b, p, none⟩) 2 cap)
  have HST := hid hst
  clear ht htc hA hC h j0 j1 j2 hO hst
  simp only [B.kind] at HST ⊢
  go_enter Tryd.func35, Tryd.ntmps35
  go_upto_region 2 with fail
  have hst := HST.out
  clear HST
  generalize hW0 : World.alloc _ _ = W0 at hst ⊢
  have HST := hid hst
  have x2 := (three hst.b1).c2
  have k0 := cell_mv hst.nu h0 id
  have k1 := cell_mv hst.nu h1 id
  have k2 := cell_mv hst.nu h2 id
  clear hst hW0
  go_wp2_with fail
  refine Calls.mono (HA.out _ HST.out.nu) ?_
  rintro e w1 ⟨hm1, a0, a1, a2, n0, n1, n2, rfl, hta, htn⟩
  obtain ⟨ka, sa, oa, la, ca, rfl, rfl, rfl⟩ := hta.cell3
  obtain ⟨kn, sn, on, ln, cn, rfl, rfl, rfl⟩ := htn.cell3
  have HM1 := hid hm1
  have HTA := hid hta
  have HTN := hid htn
  obtain ⟨y0, y1, y2, f0, f1, f2⟩ := three (hm1.heap HST.out.b4 id)
  obtain ⟨z0, z1, z2, g0, g1, g2⟩ := three (hm1.heap HST.out.b6 id)
  replace x2 := cell_mv hm1 x2 id
  clear hm1 hta htn k0 k1 k2
  go_upto_region 4 with fail
  generalize hW2 : World.setCell (World.setCell (World.setCell (World.setCell (World.setCell (World.setCell _ _ _) _ _) _ _) _ _) _ _) _ _ = W2
  have s4 := set3 (HM1.out.heap HST.out.b4 id) (.int .i64 ka) (.string sa) (.slice oa la ca)
  have s6 := set3 (s4.mv.heap (HM1.out.heap HST.out.b6 id) (by omega)) (.int .i64 kn) (.string sn) (.slice on ln cn)
  rw [hW2] at s6
  have H4 := hid s4
  have H6 := hid s6
  have hx2 : W2.cell? ⟨w.heap.size, 2, none⟩ = some (.slice (some ⟨b, p, none⟩) 2 cap) := cell_mv s6.mv (cell_mv s4.mv x2 (by omega)) (by omega)
  have hx0 : W2.cell? ⟨w.heap.size, 0, none⟩ = some (.int .i64 8) := cell_mv s6.mv (cell_mv s4.mv (cell_mv HM1.out (three HST.out.b1).c0 id) (by omega)) (by omega)
  clear s4 s6 hW2 x2 y0 y1 y2 f0 f1 f2 z0 z1 z2 g0 g1 g2
  have hw2 : Nu w W2 := ((HST.out.nu.trans HM1.out (fun _ h => h.elim)).trans H4.out.mv (fun x hx => .inr (by omega))).trans H6.out.mv (fun x hx => .inr (by omega))
  have HW2 := hid hw2
  have k0 := cell_mv hw2 HJ.out.1 id
  have k1 := cell_mv hw2 HJ.out.2.1 id
  have k2 := cell_mv hw2 HJ.out.2.2 id
  clear hw2 h0 h1 h2
  go_wp2_with fail
  refine Calls.mono (HC.out _ HW2.out) ?_
  rintro e w7 ⟨hm7, a0, a1, a2, n0, n1, n2, rfl, htb, hty⟩
  obtain ⟨kb, sb, ob, lb, cb, rfl, rfl, rfl⟩ := htb.cell3
  obtain ⟨ky, sy, oy, ly, cy, rfl, rfl, rfl⟩ := hty.cell3
  have HM7 := hid hm7
  have HTB := hid htb
  have HTY := hid hty
  have e5 := hm7.heap (H6.out.mv.heap (H4.out.mv.heap (HM1.out.heap HST.out.b5 id) (by omega)) (by omega)) id
  have e7 := hm7.heap (H6.out.mv.heap (H4.out.mv.heap (HM1.out.heap HST.out.b7 id) (by omega)) (by omega)) id
  have E5 := hid e5
  have E7 := hid e7
  obtain ⟨y0, y1, y2, f0, f1, f2⟩ := three e5
  obtain ⟨z0, z1, z2, g0, g1, g2⟩ := three e7
  replace hx0 := cell_mv hm7 hx0 id
  clear hm7 htb hty k0 k1 k2 hx2 e5 e7
  go_upto_region 6 with fail
  generalize hW8 : World.setCell (World.setCell (World.setCell (World.setCell (World.setCell (World.setCell _ _ _) _ _) _ _) _ _) _ _) _ _ = W8
  have s5 := set3 E5.out (.int .i64 kb) (.string sb) (.slice ob lb cb)
  have s7 := set3 (s5.mv.heap E7.out (by omega)) (.int .i64 ky) (.string sy) (.slice oy ly cy)
  rw [hW8] at s7
  have H5 := hid s5
  have H7 := hid s7
  replace hx0 := cell_mv s7.mv (cell_mv s5.mv hx0 (by omega)) (by omega)
  clear s5 s7 hW8 y0 y1 y2 f0 f1 f2 z0 z1 z2 g0 g1 g2
  go_wp2_with fail
  refine Calls.mono (part_any _ _ _ _ _) ?_
  rintro e w3 ⟨rfl, hm3⟩
  have HM3 := hid hm3
  replace hx0 := cell_mv hm3 hx0 id
  have hlt3 : w.heap.size < w3.heap.size := World.block_lt_of_cell? w3 _ hx0
  clear hm3
  go_wp2_with fail
  refine Calls.mono (part_any _ _ _ _ _) ?_
  rintro e w5 ⟨rfl, hm5⟩
  have HM5 := hid hm5
  replace hx0 := cell_mv (mv0 (Mv.alloc (fun _ => False) w3 _) hm5) hx0 id
  have hlt5 : w.heap.size < w5.heap.size := World.block_lt_of_cell? w5 _ hx0
  clear hm5
  go_upto_region 25 with fail
  generalize hW6 : World.alloc _ _ = W6
  have hn26 : Nu W8 W6 := by rw [← hW6]; exact mv0 (mv0 (mv0 HM3.out (Mv.alloc _ _ _)) HM5.out) (Mv.alloc _ _ _)
  have hs0 : w.heap.size + 1 + 1 + 1 + 1 + 1 + 1 < W0.heap.size := lt_of_block HST.out.b7
  have hs1 := HM1.out.size
  have hs4 := H4.out.sz
  have hs6 := H6.out.sz
  have hs7 := HM7.out.size
  have hs5 := H5.out.sz
  have hs8 := H7.out.sz
  have hs26 := hn26.size
  have hA6 : TIn W6 (fun b => W0.heap.size ≤ b) (.int .i64 ka) (.string sa) (.slice oa la ca) (col true a).t := (((((HTA.out.mv H4.out.mv (fun x hx _ e => by omega)).mv H6.out.mv (fun x hx _ e => by omega)).nu HM7.out).mv H5.out.mv (fun x hx _ e => by omega)).mv H7.out.mv (fun x hx _ e => by omega)).nu hn26
  have b4 := hn26.heap (H7.out.mv.heap (H5.out.mv.heap (HM7.out.heap (H6.out.mv.heap H4.out.blk (by omega)) id) (by omega)) (by omega)) id
  have hN6 : TIn W6 (fun b => W0.heap.size ≤ b) (.int .i64 kn) (.string sn) (.slice on ln cn) (col false a).t := (((((HTN.out.mv H4.out.mv (fun x hx _ e => by omega)).mv H6.out.mv (fun x hx _ e => by omega)).nu HM7.out).mv H5.out.mv (fun x hx _ e => by omega)).mv H7.out.mv (fun x hx _ e => by omega)).nu hn26
  have b6 := hn26.heap (H7.out.mv.heap (H5.out.mv.heap (HM7.out.heap H6.out.blk id) (by omega)) (by omega)) id
  have hB6 : TIn W6 (fun b => W0.heap.size ≤ b) (.int .i64 kb) (.string sb) (.slice ob lb cb) (col true c).t := (((HTB.out.mv H5.out.mv (fun x hx _ e => by omega)).mv H7.out.mv (fun x hx _ e => by omega)).nu hn26).mono (fun x hx _ => by omega)
  have b5 := hn26.heap (H7.out.mv.heap H5.out.blk (by omega)) id
  have hY6 : TIn W6 (fun b => W0.heap.size ≤ b) (.int .i64 ky) (.string sy) (.slice oy ly cy) (col false c).t := (((HTY.out.mv H5.out.mv (fun x hx _ e => by omega)).mv H7.out.mv (fun x hx _ e => by omega)).nu hn26).mono (fun x hx _ => by omega)
  have b7 := hn26.heap H7.out.blk id
  have b2 := hn26.heap (H7.out.mv.heap (H5.out.mv.heap (HM7.out.heap (H6.out.mv.heap (H4.out.mv.heap (HM1.out.heap HST.out.b2 id) (by omega)) (by omega)) id) (by omega)) (by omega)) id
  have b3 := hn26.heap (H7.out.mv.heap (H5.out.mv.heap (HM7.out.heap (H6.out.mv.heap (H4.out.mv.heap (HM1.out.heap HST.out.b3 id) (by omega)) (by omega)) id) (by omega)) (by omega)) id
  have hw6 : Nu w W6 := (((HW2.out.trans HM7.out (fun _ h => h.elim)).trans H5.out.mv (fun x hx => .inr (by omega))).trans H7.out.mv (fun x hx => .inr (by omega))).trans hn26 (fun _ h => h.elim)
  rename_i K1 hK1 K2 hK2
  refine wp_plan (P0 := fun b => W0.heap.size ≤ b) (B2 := w.heap.size + 1) (B3 := w.heap.size + 1 + 1) (plan := [.load 90 4 (col true a).t, .load 91 5 (col true c).t, .bs2 92 90 91 (col true a).t (col true c).t, .call 93 8 92 [(col true a).t, (col true c).t], .load 94 6 (col false a).t, .load 95 7 (col false c).t, .bs2 96 94 95 (col false a).t (col false c).t, .call 97 9 96 [(col false a).t, (col false c).t], .store 2 93 (.mk 8 [] [(col true a).t, (col true c).t]), .store 3 97 (.mk 9 [] [(col false a).t, (col false c).t])])
    (by kernel_rfl) ?plan (fun x hx => by omega) (fun x hx => by omega) (by omega) ?loads rfl rfl (fun p => by unfold Bp; split; exact ⟨_, _, _, b2⟩; exact ⟨_, _, _, b3⟩) ?post
  case plan =>
    refine isPlan_mk (fun i o ho => ?_) (by rfl)
    have hi : i < 10 := (Array.getElem?_eq_some_iff.1 ho).1
    have : i = 0 ∨ i = 1 ∨ i = 2 ∨ i = 3 ∨ i = 4 ∨ i = 5 ∨ i = 6 ∨ i = 7 ∨ i = 8 ∨ i = 9 := by omega
    rcases this with rfl | rfl | rfl | rfl | rfl | rfl | rfl | rfl | rfl | rfl <;> cases ho
    · exact ⟨_, rfl, rfl, rfl, rfl, trivial, rfl⟩
    · exact ⟨_, rfl, rfl, rfl, rfl, trivial, rfl⟩
    · exact ⟨_, rfl, rfl, rfl, rfl, ⟨⟨⟨0, .data⟩, by simp, rfl, _, rfl, rfl⟩, ⟨⟨1, .data⟩, by simp, rfl, _, rfl, rfl⟩⟩, rfl⟩
    · exact ⟨_, rfl, rfl, rfl, rfl, ⟨⟨⟨2, .data⟩, by simp, rfl, _, rfl, rfl⟩, by decide⟩, rfl⟩
    · exact ⟨_, rfl, rfl, rfl, rfl, trivial, rfl⟩
    · exact ⟨_, rfl, rfl, rfl, rfl, trivial, rfl⟩
    · exact ⟨_, rfl, rfl, rfl, rfl, ⟨⟨⟨4, .data⟩, by simp, rfl, _, rfl, rfl⟩, ⟨⟨5, .data⟩, by simp, rfl, _, rfl, rfl⟩⟩, rfl⟩
    · exact ⟨_, rfl, rfl, rfl, rfl, ⟨⟨⟨6, .data⟩, by simp, rfl, _, rfl, rfl⟩, by decide⟩, rfl⟩
    · exact ⟨_, rfl, rfl, rfl, rfl, ⟨⟨3, .data⟩, by simp, rfl, _, rfl, rfl⟩, rfl⟩
    · exact ⟨_, rfl, rfl, rfl, rfl, ⟨⟨7, .data⟩, by simp, rfl, _, rfl, rfl⟩, rfl⟩
  case loads =>
    intro i d s t hi
    have : i < 10 := (List.getElem?_eq_some_iff.1 hi).1
    have : i = 0 ∨ i = 1 ∨ i = 2 ∨ i = 3 ∨ i = 4 ∨ i = 5 ∨ i = 6 ∨ i = 7 ∨ i = 8 ∨ i = 9 := by omega
    rcases this with rfl | rfl | rfl | rfl | rfl | rfl | rfl | rfl | rfl | rfl <;> cases hi
    · exact ⟨_, _, _, _, rfl, b4, by omega, by omega, hA6⟩
    · exact ⟨_, _, _, _, rfl, b5, by omega, by omega, hB6⟩
    · exact ⟨_, _, _, _, rfl, b6, by omega, by omega, hN6⟩
    · exact ⟨_, _, _, _, rfl, b7, by omega, by omega, hY6⟩
  case post =>
    intro a' w' hdf h2 h3 hm hst
    obtain ⟨x0, x1, x2, hb2, ht2⟩ := hst 8 2 93 _ (by decide) rfl
    obtain ⟨y0, y1, y2, hb3, ht3⟩ := hst 9 3 97 _ (by decide) rfl
    change Blk w' (w.heap.size + 1) x0 x1 x2 at hb2
    change Blk w' (w.heap.size + 1 + 1) y0 y1 y2 at hb3
    refine hK2 _ _ ?_
    refine wp_ret ?_
    obtain ⟨k2, s2, o2, l2, c2, rfl, rfl, rfl⟩ := ht2.cell3
    obtain ⟨k3, s3, o3, l3, c3, rfl, rfl, rfl⟩ := ht3.cell3
    obtain ⟨p0, p1, p2, _, _, _⟩ := three hb2
    obtain ⟨q0, q1, q2, _, _, _⟩ := three hb3
    refine bodyPost_ret (v := .tuple #[.agg #[.int .i64 k2, .string s2, .slice o2 l2 c2], .agg #[.int .i64 k3, .string s3, .slice o3 l3 c3]]) (by simp [results, Tryd.results35, go_sem, h2, h3, p0, p1, p2, q0, q1, q2]) (by rw [hdf]) ?_
    rw [← HO.out]
    exact ⟨hw6.trans hm (fun x hx => .inr (by omega)), _, _, _, _, _, _, rfl, ht2.mono (fun x hx _ => by omega), ht3.mono (fun x hx _ => by omega)⟩

end Go.Proofs.YtidihaecgmbhpaaDoor
/-
  Normal forms: or.
-/
set_option linter.unusedSimpArgs false
namespace Go.Proofs.YtidihaecgmbhpaaDoor
open Go.RowKit Q

set_option maxRecDepth 100000 in
set_option maxHeartbeats 8000000 in
theorem col_or (a c : F) (hA : ColP a) (hC : ColP c) : ColP (.b .or a c) := by
  intro w c0 c1 c2 h
  obtain ⟨b, p, cap, d0, d1, d2, i0, i1, i2, rfl, rfl, rfl, h0, h1, h2, ht, j0, j1, j2, htc⟩ := kid_b h
  have HA := hid (fun W (hm : Nu w W) => hA W d0 d1 d2 (ht.nu hm))
  have HC := hid (fun W (hm : Nu w W) => hC W i0 i1 i2 (htc.nu hm))
  have HJ := hid (And.intro j0 (And.intro j1 j2))
  obtain ⟨O, hO⟩ : ∃ O, ColOut (.b .or a c) w = O := ⟨_, rfl⟩
  rw [hO]
  have HO := hid hO
  have hst := seven7 w (.int .i64 B.or.kind) (.string (strOfL [])) (.slice (some ⟨b, p, none⟩) 2 cap)
  have HST := hid hst
  clear ht htc hA hC h j0 j1 j2 hO hst
  simp only [B.kind] at HST ⊢
  go_enter Tryd.func35, Tryd.ntmps35
  go_upto_region 2 with fail
  have hst := HST.out
  clear HST
  generalize hW0 : World.alloc _ _ = W0 at hst ⊢
  have HST := hid hst
  have x2 := (three hst.b1).c2
  have k0 := cell_mv hst.nu h0 id
  have k1 := cell_mv hst.nu h1 id
  have k2 := cell_mv hst.nu h2 id
  clear hst hW0
  go_wp2_with fail
  refine Calls.mono (HA.out _ HST.out.nu) ?_
  rintro e w1 ⟨hm1, a0, a1, a2, n0, n1, n2, rfl, hta, htn⟩
  obtain ⟨ka, sa, oa, la, ca, rfl, rfl, rfl⟩ := hta.cell3
  obtain ⟨kn, sn, on, ln, cn, rfl, rfl, rfl⟩ := htn.cell3
  have HM1 := hid hm1
  have HTA := hid hta
  have HTN := hid htn
  obtain ⟨y0, y1, y2, f0, f1, f2⟩ := three (hm1.heap HST.out.b4 id)
  obtain ⟨z0, z1, z2, g0, g1, g2⟩ := three (hm1.heap HST.out.b6 id)
  replace x2 := cell_mv hm1 x2 id
  clear hm1 hta htn k0 k1 k2
  go_upto_region 4 with fail
  generalize hW2 : World.setCell (World.setCell (World.setCell (World.setCell (World.setCell (World.setCell _ _ _) _ _) _ _) _ _) _ _) _ _ = W2
  have s4 := set3 (HM1.out.heap HST.out.b4 id) (.int .i64 ka) (.string sa) (.slice oa la ca)
  have s6 := set3 (s4.mv.heap (HM1.out.heap HST.out.b6 id) (by omega)) (.int .i64 kn) (.string sn) (.slice on ln cn)
  rw [hW2] at s6
  have H4 := hid s4
  have H6 := hid s6
  have hx2 : W2.cell? ⟨w.heap.size, 2, none⟩ = some (.slice (some ⟨b, p, none⟩) 2 cap) := cell_mv s6.mv (cell_mv s4.mv x2 (by omega)) (by omega)
  have hx0 : W2.cell? ⟨w.heap.size, 0, none⟩ = some (.int .i64 9) := cell_mv s6.mv (cell_mv s4.mv (cell_mv HM1.out (three HST.out.b1).c0 id) (by omega)) (by omega)
  clear s4 s6 hW2 x2 y0 y1 y2 f0 f1 f2 z0 z1 z2 g0 g1 g2
  have hw2 : Nu w W2 := ((HST.out.nu.trans HM1.out (fun _ h => h.elim)).trans H4.out.mv (fun x hx => .inr (by omega))).trans H6.out.mv (fun x hx => .inr (by omega))
  have HW2 := hid hw2
  have k0 := cell_mv hw2 HJ.out.1 id
  have k1 := cell_mv hw2 HJ.out.2.1 id
  have k2 := cell_mv hw2 HJ.out.2.2 id
  clear hw2 h0 h1 h2
  go_wp2_with fail
  refine Calls.mono (HC.out _ HW2.out) ?_
  rintro e w7 ⟨hm7, a0, a1, a2, n0, n1, n2, rfl, htb, hty⟩
  obtain ⟨kb, sb, ob, lb, cb, rfl, rfl, rfl⟩ := htb.cell3
  obtain ⟨ky, sy, oy, ly, cy, rfl, rfl, rfl⟩ := hty.cell3
  have HM7 := hid hm7
  have HTB := hid htb
  have HTY := hid hty
  have e5 := hm7.heap (H6.out.mv.heap (H4.out.mv.heap (HM1.out.heap HST.out.b5 id) (by omega)) (by omega)) id
  have e7 := hm7.heap (H6.out.mv.heap (H4.out.mv.heap (HM1.out.heap HST.out.b7 id) (by omega)) (by omega)) id
  have E5 := hid e5
  have E7 := hid e7
  obtain ⟨y0, y1, y2, f0, f1, f2⟩ := three e5
  obtain ⟨z0, z1, z2, g0, g1, g2⟩ := three e7
  replace hx0 := cell_mv hm7 hx0 id
  clear hm7 htb hty k0 k1 k2 hx2 e5 e7
  go_upto_region 6 with fail
  generalize hW8 : World.setCell (World.setCell (World.setCell (World.setCell (World.setCell (World.setCell _ _ _) _ _) _ _) _ _) _ _) _ _ = W8
  have s5 := set3 E5.out (.int .i64 kb) (.string sb) (.slice ob lb cb)
  have s7 := set3 (s5.mv.heap E7.out (by omega)) (.int .i64 ky) (.string sy) (.slice oy ly cy)
  rw [hW8] at s7
  have H5 := hid s5
  have H7 := hid s7
  replace hx0 := cell_mv s7.mv (cell_mv s5.mv hx0 (by omega)) (by omega)
  clear s5 s7 hW8 y0 y1 y2 f0 f1 f2 z0 z1 z2 g0 g1 g2
  go_wp2_with fail
  refine Calls.mono (part_any _ _ _ _ _) ?_
  rintro e w3 ⟨rfl, hm3⟩
  have HM3 := hid hm3
  replace hx0 := cell_mv hm3 hx0 id
  have hlt3 : w.heap.size < w3.heap.size := World.block_lt_of_cell? w3 _ hx0
  clear hm3
  go_wp2_with fail
  refine Calls.mono (part_any _ _ _ _ _) ?_
  rintro e w5 ⟨rfl, hm5⟩
  have HM5 := hid hm5
  replace hx0 := cell_mv (mv0 (Mv.alloc (fun _ => False) w3 _) hm5) hx0 id
  have hlt5 : w.heap.size < w5.heap.size := World.block_lt_of_cell? w5 _ hx0
  clear hm5
  go_upto_region 27 with fail
  generalize hW6 : World.alloc _ _ = W6
  have hn26 : Nu W8 W6 := by rw [← hW6]; exact mv0 (mv0 (mv0 HM3.out (Mv.alloc _ _ _)) HM5.out) (Mv.alloc _ _ _)
  have hs0 : w.heap.size + 1 + 1 + 1 + 1 + 1 + 1 < W0.heap.size := lt_of_block HST.out.b7
  have hs1 := HM1.out.size
  have hs4 := H4.out.sz
  have hs6 := H6.out.sz
  have hs7 := HM7.out.size
  have hs5 := H5.out.sz
  have hs8 := H7.out.sz
  have hs26 := hn26.size
  have hA6 : TIn W6 (fun b => W0.heap.size ≤ b) (.int .i64 ka) (.string sa) (.slice oa la ca) (col true a).t := (((((HTA.out.mv H4.out.mv (fun x hx _ e => by omega)).mv H6.out.mv (fun x hx _ e => by omega)).nu HM7.out).mv H5.out.mv (fun x hx _ e => by omega)).mv H7.out.mv (fun x hx _ e => by omega)).nu hn26
  have b4 := hn26.heap (H7.out.mv.heap (H5.out.mv.heap (HM7.out.heap (H6.out.mv.heap H4.out.blk (by omega)) id) (by omega)) (by omega)) id
  have hN6 : TIn W6 (fun b => W0.heap.size ≤ b) (.int .i64 kn) (.string sn) (.slice on ln cn) (col false a).t := (((((HTN.out.mv H4.out.mv (fun x hx _ e => by omega)).mv H6.out.mv (fun x hx _ e => by omega)).nu HM7.out).mv H5.out.mv (fun x hx _ e => by omega)).mv H7.out.mv (fun x hx _ e => by omega)).nu hn26
  have b6 := hn26.heap (H7.out.mv.heap (H5.out.mv.heap (HM7.out.heap H6.out.blk id) (by omega)) (by omega)) id
  have hB6 : TIn W6 (fun b => W0.heap.size ≤ b) (.int .i64 kb) (.string sb) (.slice ob lb cb) (col true c).t := (((HTB.out.mv H5.out.mv (fun x hx _ e => by omega)).mv H7.out.mv (fun x hx _ e => by omega)).nu hn26).mono (fun x hx _ => by omega)
  have b5 := hn26.heap (H7.out.mv.heap H5.out.blk (by omega)) id
  have hY6 : TIn W6 (fun b => W0.heap.size ≤ b) (.int .i64 ky) (.string sy) (.slice oy ly cy) (col false c).t := (((HTY.out.mv H5.out.mv (fun x hx _ e => by omega)).mv H7.out.mv (fun x hx _ e => by omega)).nu hn26).mono (fun x hx _ => by omega)
  have b7 := hn26.heap H7.out.blk id
  have b2 := hn26.heap (H7.out.mv.heap (H5.out.mv.heap (HM7.out.heap (H6.out.mv.heap (H4.out.mv.heap (HM1.out.heap HST.out.b2 id) (by omega)) (by omega)) id) (by omega)) (by omega)) id
  have b3 := hn26.heap (H7.out.mv.heap (H5.out.mv.heap (HM7.out.heap (H6.out.mv.heap (H4.out.mv.heap (HM1.out.heap HST.out.b3 id) (by omega)) (by omega)) id) (by omega)) (by omega)) id
  have hw6 : Nu w W6 := (((HW2.out.trans HM7.out (fun _ h => h.elim)).trans H5.out.mv (fun x hx => .inr (by omega))).trans H7.out.mv (fun x hx => .inr (by omega))).trans hn26 (fun _ h => h.elim)
  rename_i K1 hK1 K2 hK2
  refine wp_plan (P0 := fun b => W0.heap.size ≤ b) (B2 := w.heap.size + 1) (B3 := w.heap.size + 1 + 1) (plan := [.load 100 4 (col true a).t, .load 101 5 (col true c).t, .bs2 102 100 101 (col true a).t (col true c).t, .call 103 9 102 [(col true a).t, (col true c).t], .load 104 6 (col false a).t, .load 105 7 (col false c).t, .bs2 106 104 105 (col false a).t (col false c).t, .call 107 8 106 [(col false a).t, (col false c).t], .store 2 103 (.mk 9 [] [(col true a).t, (col true c).t]), .store 3 107 (.mk 8 [] [(col false a).t, (col false c).t])])
    (by kernel_rfl) ?plan (fun x hx => by omega) (fun x hx => by omega) (by omega) ?loads rfl rfl (fun p => by unfold Bp; split; exact ⟨_, _, _, b2⟩; exact ⟨_, _, _, b3⟩) ?post
  case plan =>
    refine isPlan_mk (fun i o ho => ?_) (by rfl)
    have hi : i < 10 := (Array.getElem?_eq_some_iff.1 ho).1
    have : i = 0 ∨ i = 1 ∨ i = 2 ∨ i = 3 ∨ i = 4 ∨ i = 5 ∨ i = 6 ∨ i = 7 ∨ i = 8 ∨ i = 9 := by omega
    rcases this with rfl | rfl | rfl | rfl | rfl | rfl | rfl | rfl | rfl | rfl <;> cases ho
    · exact ⟨_, rfl, rfl, rfl, rfl, trivial, rfl⟩
    · exact ⟨_, rfl, rfl, rfl, rfl, trivial, rfl⟩
    · exact ⟨_, rfl, rfl, rfl, rfl, ⟨⟨⟨0, .data⟩, by simp, rfl, _, rfl, rfl⟩, ⟨⟨1, .data⟩, by simp, rfl, _, rfl, rfl⟩⟩, rfl⟩
    · exact ⟨_, rfl, rfl, rfl, rfl, ⟨⟨⟨2, .data⟩, by simp, rfl, _, rfl, rfl⟩, by decide⟩, rfl⟩
    · exact ⟨_, rfl, rfl, rfl, rfl, trivial, rfl⟩
    · exact ⟨_, rfl, rfl, rfl, rfl, trivial, rfl⟩
    · exact ⟨_, rfl, rfl, rfl, rfl, ⟨⟨⟨4, .data⟩, by simp, rfl, _, rfl, rfl⟩, ⟨⟨5, .data⟩, by simp, rfl, _, rfl, rfl⟩⟩, rfl⟩
    · exact ⟨_, rfl, rfl, rfl, rfl, ⟨⟨⟨6, .data⟩, by simp, rfl, _, rfl, rfl⟩, by decide⟩, rfl⟩
    · exact ⟨_, rfl, rfl, rfl, rfl, ⟨⟨3, .data⟩, by simp, rfl, _, rfl, rfl⟩, rfl⟩
    · exact ⟨_, rfl, rfl, rfl, rfl, ⟨⟨7, .data⟩, by simp, rfl, _, rfl, rfl⟩, rfl⟩
  case loads =>
    intro i d s t hi
    have : i < 10 := (List.getElem?_eq_some_iff.1 hi).1
    have : i = 0 ∨ i = 1 ∨ i = 2 ∨ i = 3 ∨ i = 4 ∨ i = 5 ∨ i = 6 ∨ i = 7 ∨ i = 8 ∨ i = 9 := by omega
    rcases this with rfl | rfl | rfl | rfl | rfl | rfl | rfl | rfl | rfl | rfl <;> cases hi
    · exact ⟨_, _, _, _, rfl, b4, by omega, by omega, hA6⟩
    · exact ⟨_, _, _, _, rfl, b5, by omega, by omega, hB6⟩
    · exact ⟨_, _, _, _, rfl, b6, by omega, by omega, hN6⟩
    · exact ⟨_, _, _, _, rfl, b7, by omega, by omega, hY6⟩
  case post =>
    intro a' w' hdf h2 h3 hm hst
    obtain ⟨x0, x1, x2, hb2, ht2⟩ := hst 8 2 103 _ (by decide) rfl
    obtain ⟨y0, y1, y2, hb3, ht3⟩ := hst 9 3 107 _ (by decide) rfl
    change Blk w' (w.heap.size + 1) x0 x1 x2 at hb2
    change Blk w' (w.heap.size + 1 + 1) y0 y1 y2 at hb3
    refine hK2 _ _ ?_
    refine wp_ret ?_
    obtain ⟨k2, s2, o2, l2, c2, rfl, rfl, rfl⟩ := ht2.cell3
    obtain ⟨k3, s3, o3, l3, c3, rfl, rfl, rfl⟩ := ht3.cell3
    obtain ⟨p0, p1, p2, _, _, _⟩ := three hb2
    obtain ⟨q0, q1, q2, _, _, _⟩ := three hb3
    refine bodyPost_ret (v := .tuple #[.agg #[.int .i64 k2, .string s2, .slice o2 l2 c2], .agg #[.int .i64 k3, .string s3, .slice o3 l3 c3]]) (by simp [results, Tryd.results35, go_sem, h2, h3, p0, p1, p2, q0, q1, q2]) (by rw [hdf]) ?_
    rw [← HO.out]
    exact ⟨hw6.trans hm (fun x hx => .inr (by omega)), _, _, _, _, _, _, rfl, ht2.mono (fun x hx _ => by omega), ht3.mono (fun x hx _ => by omega)⟩

end Go.Proofs.YtidihaecgmbhpaaDoor
/-
  Normal forms: imp.
-/
set_option linter.unusedSimpArgs false
namespace Go.Proofs.YtidihaecgmbhpaaDoor
open Go.RowKit Q

set_option maxRecDepth 100000 in
set_option maxHeartbeats 8000000 in
theorem col_imp (a c : F) (hA : ColP a) (hC : ColP c) : ColP (.b .imp a c) := by
  intro w c0 c1 c2 h
  obtain ⟨b, p, cap, d0, d1, d2, i0, i1, i2, rfl, rfl, rfl, h0, h1, h2, ht, j0, j1, j2, htc⟩ := kid_b h
  have HA := hid (fun W (hm : Nu w W) => hA W d0 d1 d2 (ht.nu hm))
  have HC := hid (fun W (hm : Nu w W) => hC W i0 i1 i2 (htc.nu hm))
  have HJ := hid (And.intro j0 (And.intro j1 j2))
  obtain ⟨O, hO⟩ : ∃ O, ColOut (.b .imp a c) w = O := ⟨_, rfl⟩
  rw [hO]
  have HO := hid hO
  have hst := seven7 w (.int .i64 B.imp.kind) (.string (strOfL [])) (.slice (some ⟨b, p, none⟩) 2 cap)
  have HST := hid hst
  clear ht htc hA hC h j0 j1 j2 hO hst
  simp only [B.kind] at HST ⊢
  go_enter Tryd.func35, Tryd.ntmps35
  go_upto_region 2 with fail
  have hst := HST.out
  clear HST
  generalize hW0 : World.alloc _ _ = W0 at hst ⊢
  have HST := hid hst
  have x2 := (three hst.b1).c2
  have k0 := cell_mv hst.nu h0 id
  have k1 := cell_mv hst.nu h1 id
  have k2 := cell_mv hst.nu h2 id
  clear hst hW0
  go_wp2_with fail
  refine Calls.mono (HA.out _ HST.out.nu) ?_
  rintro e w1 ⟨hm1, a0, a1, a2, n0, n1, n2, rfl, hta, htn⟩
  obtain ⟨ka, sa, oa, la, ca, rfl, rfl, rfl⟩ := hta.cell3
  obtain ⟨kn, sn, on, ln, cn, rfl, rfl, rfl⟩ := htn.cell3
  have HM1 := hid hm1
  have HTA := hid hta
  have HTN := hid htn
  obtain ⟨y0, y1, y2, f0, f1, f2⟩ := three (hm1.heap HST.out.b4 id)
  obtain ⟨z0, z1, z2, g0, g1, g2⟩ := three (hm1.heap HST.out.b6 id)
  replace x2 := cell_mv hm1 x2 id
  clear hm1 hta htn k0 k1 k2
  go_upto_region 4 with fail
  generalize hW2 : World.setCell (World.setCell (World.setCell (World.setCell (World.setCell (World.setCell _ _ _) _ _) _ _) _ _) _ _) _ _ = W2
  have s4 := set3 (HM1.out.heap HST.out.b4 id) (.int .i64 ka) (.string sa) (.slice oa la ca)
  have s6 := set3 (s4.mv.heap (HM1.out.heap HST.out.b6 id) (by omega)) (.int .i64 kn) (.string sn) (.slice on ln cn)
  rw [hW2] at s6
  have H4 := hid s4
  have H6 := hid s6
  have hx2 : W2.cell? ⟨w.heap.size, 2, none⟩ = some (.slice (some ⟨b, p, none⟩) 2 cap) := cell_mv s6.mv (cell_mv s4.mv x2 (by omega)) (by omega)
  have hx0 : W2.cell? ⟨w.heap.size, 0, none⟩ = some (.int .i64 10) := cell_mv s6.mv (cell_mv s4.mv (cell_mv HM1.out (three HST.out.b1).c0 id) (by omega)) (by omega)
  clear s4 s6 hW2 x2 y0 y1 y2 f0 f1 f2 z0 z1 z2 g0 g1 g2
  have hw2 : Nu w W2 := ((HST.out.nu.trans HM1.out (fun _ h => h.elim)).trans H4.out.mv (fun x hx => .inr (by omega))).trans H6.out.mv (fun x hx => .inr (by omega))
  have HW2 := hid hw2
  have k0 := cell_mv hw2 HJ.out.1 id
  have k1 := cell_mv hw2 HJ.out.2.1 id
  have k2 := cell_mv hw2 HJ.out.2.2 id
  clear hw2 h0 h1 h2
  go_wp2_with fail
  refine Calls.mono (HC.out _ HW2.out) ?_
  rintro e w7 ⟨hm7, a0, a1, a2, n0, n1, n2, rfl, htb, hty⟩
  obtain ⟨kb, sb, ob, lb, cb, rfl, rfl, rfl⟩ := htb.cell3
  obtain ⟨ky, sy, oy, ly, cy, rfl, rfl, rfl⟩ := hty.cell3
  have HM7 := hid hm7
  have HTB := hid htb
  have HTY := hid hty
  have e5 := hm7.heap (H6.out.mv.heap (H4.out.mv.heap (HM1.out.heap HST.out.b5 id) (by omega)) (by omega)) id
  have e7 := hm7.heap (H6.out.mv.heap (H4.out.mv.heap (HM1.out.heap HST.out.b7 id) (by omega)) (by omega)) id
  have E5 := hid e5
  have E7 := hid e7
  obtain ⟨y0, y1, y2, f0, f1, f2⟩ := three e5
  obtain ⟨z0, z1, z2, g0, g1, g2⟩ := three e7
  replace hx0 := cell_mv hm7 hx0 id
  clear hm7 htb hty k0 k1 k2 hx2 e5 e7
  go_upto_region 6 with fail
  generalize hW8 : World.setCell (World.setCell (World.setCell (World.setCell (World.setCell (World.setCell _ _ _) _ _) _ _) _ _) _ _) _ _ = W8
  have s5 := set3 E5.out (.int .i64 kb) (.string sb) (.slice ob lb cb)
  have s7 := set3 (s5.mv.heap E7.out (by omega)) (.int .i64 ky) (.string sy) (.slice oy ly cy)
  rw [hW8] at s7
  have H5 := hid s5
  have H7 := hid s7
  replace hx0 := cell_mv s7.mv (cell_mv s5.mv hx0 (by omega)) (by omega)
  clear s5 s7 hW8 y0 y1 y2 f0 f1 f2 z0 z1 z2 g0 g1 g2
  go_wp2_with fail
  refine Calls.mono (part_any _ _ _ _ _) ?_
  rintro e w3 ⟨rfl, hm3⟩
  have HM3 := hid hm3
  replace hx0 := cell_mv hm3 hx0 id
  have hlt3 : w.heap.size < w3.heap.size := World.block_lt_of_cell? w3 _ hx0
  clear hm3
  go_wp2_with fail
  refine Calls.mono (part_any _ _ _ _ _) ?_
  rintro e w5 ⟨rfl, hm5⟩
  have HM5 := hid hm5
  replace hx0 := cell_mv (mv0 (Mv.alloc (fun _ => False) w3 _) hm5) hx0 id
  have hlt5 : w.heap.size < w5.heap.size := World.block_lt_of_cell? w5 _ hx0
  clear hm5
  go_upto_region 29 with fail
  generalize hW6 : World.alloc _ _ = W6
  have hn26 : Nu W8 W6 := by rw [← hW6]; exact mv0 (mv0 (mv0 HM3.out (Mv.alloc _ _ _)) HM5.out) (Mv.alloc _ _ _)
  have hs0 : w.heap.size + 1 + 1 + 1 + 1 + 1 + 1 < W0.heap.size := lt_of_block HST.out.b7
  have hs1 := HM1.out.size
  have hs4 := H4.out.sz
  have hs6 := H6.out.sz
  have hs7 := HM7.out.size
  have hs5 := H5.out.sz
  have hs8 := H7.out.sz
  have hs26 := hn26.size
  have hA6 : TIn W6 (fun b => W0.heap.size ≤ b) (.int .i64 ka) (.string sa) (.slice oa la ca) (col true a).t := (((((HTA.out.mv H4.out.mv (fun x hx _ e => by omega)).mv H6.out.mv (fun x hx _ e => by omega)).nu HM7.out).mv H5.out.mv (fun x hx _ e => by omega)).mv H7.out.mv (fun x hx _ e => by omega)).nu hn26
  have b4 := hn26.heap (H7.out.mv.heap (H5.out.mv.heap (HM7.out.heap (H6.out.mv.heap H4.out.blk (by omega)) id) (by omega)) (by omega)) id
  have hN6 : TIn W6 (fun b => W0.heap.size ≤ b) (.int .i64 kn) (.string sn) (.slice on ln cn) (col false a).t := (((((HTN.out.mv H4.out.mv (fun x hx _ e => by omega)).mv H6.out.mv (fun x hx _ e => by omega)).nu HM7.out).mv H5.out.mv (fun x hx _ e => by omega)).mv H7.out.mv (fun x hx _ e => by omega)).nu hn26
  have b6 := hn26.heap (H7.out.mv.heap (H5.out.mv.heap (HM7.out.heap H6.out.blk id) (by omega)) (by omega)) id
  have hB6 : TIn W6 (fun b => W0.heap.size ≤ b) (.int .i64 kb) (.string sb) (.slice ob lb cb) (col true c).t := (((HTB.out.mv H5.out.mv (fun x hx _ e => by omega)).mv H7.out.mv (fun x hx _ e => by omega)).nu hn26).mono (fun x hx _ => by omega)
  have b5 := hn26.heap (H7.out.mv.heap H5.out.blk (by omega)) id
  have hY6 : TIn W6 (fun b => W0.heap.size ≤ b) (.int .i64 ky) (.string sy) (.slice oy ly cy) (col false c).t := (((HTY.out.mv H5.out.mv (fun x hx _ e => by omega)).mv H7.out.mv (fun x hx _ e => by omega)).nu hn26).mono (fun x hx _ => by omega)
  have b7 := hn26.heap H7.out.blk id
  have b2 := hn26.heap (H7.out.mv.heap (H5.out.mv.heap (HM7.out.heap (H6.out.mv.heap (H4.out.mv.heap (HM1.out.heap HST.out.b2 id) (by omega)) (by omega)) id) (by omega)) (by omega)) id
  have b3 := hn26.heap (H7.out.mv.heap (H5.out.mv.heap (HM7.out.heap (H6.out.mv.heap (H4.out.mv.heap (HM1.out.heap HST.out.b3 id) (by omega)) (by omega)) id) (by omega)) (by omega)) id
  have hw6 : Nu w W6 := (((HW2.out.trans HM7.out (fun _ h => h.elim)).trans H5.out.mv (fun x hx => .inr (by omega))).trans H7.out.mv (fun x hx => .inr (by omega))).trans hn26 (fun _ h => h.elim)
  rename_i K1 hK1 K2 hK2
  refine wp_plan (P0 := fun b => W0.heap.size ≤ b) (B2 := w.heap.size + 1) (B3 := w.heap.size + 1 + 1) (plan := [.load 110 6 (col false a).t, .load 111 5 (col true c).t, .bs2 112 110 111 (col false a).t (col true c).t, .call 113 9 112 [(col false a).t, (col true c).t], .load 114 4 (col true a).t, .load 115 7 (col false c).t, .bs2 116 114 115 (col true a).t (col false c).t, .call 117 8 116 [(col true a).t, (col false c).t], .store 2 113 (.mk 9 [] [(col false a).t, (col true c).t]), .store 3 117 (.mk 8 [] [(col true a).t, (col false c).t])])
    (by kernel_rfl) ?plan (fun x hx => by omega) (fun x hx => by omega) (by omega) ?loads rfl rfl (fun p => by unfold Bp; split; exact ⟨_, _, _, b2⟩; exact ⟨_, _, _, b3⟩) ?post
  case plan =>
    refine isPlan_mk (fun i o ho => ?_) (by rfl)
    have hi : i < 10 := (Array.getElem?_eq_some_iff.1 ho).1
    have : i = 0 ∨ i = 1 ∨ i = 2 ∨ i = 3 ∨ i = 4 ∨ i = 5 ∨ i = 6 ∨ i = 7 ∨ i = 8 ∨ i = 9 := by omega
    rcases this with rfl | rfl | rfl | rfl | rfl | rfl | rfl | rfl | rfl | rfl <;> cases ho
    · exact ⟨_, rfl, rfl, rfl, rfl, trivial, rfl⟩
    · exact ⟨_, rfl, rfl, rfl, rfl, trivial, rfl⟩
    · exact ⟨_, rfl, rfl, rfl, rfl, ⟨⟨⟨0, .data⟩, by simp, rfl, _, rfl, rfl⟩, ⟨⟨1, .data⟩, by simp, rfl, _, rfl, rfl⟩⟩, rfl⟩
    · exact ⟨_, rfl, rfl, rfl, rfl, ⟨⟨⟨2, .data⟩, by simp, rfl, _, rfl, rfl⟩, by decide⟩, rfl⟩
    · exact ⟨_, rfl, rfl, rfl, rfl, trivial, rfl⟩
    · exact ⟨_, rfl, rfl, rfl, rfl, trivial, rfl⟩
    · exact ⟨_, rfl, rfl, rfl, rfl, ⟨⟨⟨4, .data⟩, by simp, rfl, _, rfl, rfl⟩, ⟨⟨5, .data⟩, by simp, rfl, _, rfl, rfl⟩⟩, rfl⟩
    · exact ⟨_, rfl, rfl, rfl, rfl, ⟨⟨⟨6, .data⟩, by simp, rfl, _, rfl, rfl⟩, by decide⟩, rfl⟩
    · exact ⟨_, rfl, rfl, rfl, rfl, ⟨⟨3, .data⟩, by simp, rfl, _, rfl, rfl⟩, rfl⟩
    · exact ⟨_, rfl, rfl, rfl, rfl, ⟨⟨7, .data⟩, by simp, rfl, _, rfl, rfl⟩, rfl⟩
  case loads =>
    intro i d s t hi
    have : i < 10 := (List.getElem?_eq_some_iff.1 hi).1
    have : i = 0 ∨ i = 1 ∨ i = 2 ∨ i = 3 ∨ i = 4 ∨ i = 5 ∨ i = 6 ∨ i = 7 ∨ i = 8 ∨ i = 9 := by omega
    rcases this with rfl | rfl | rfl | rfl | rfl | rfl | rfl | rfl | rfl | rfl <;> cases hi
    · exact ⟨_, _, _, _, rfl, b6, by omega, by omega, hN6⟩
    · exact ⟨_, _, _, _, rfl, b5, by omega, by omega, hB6⟩
    · exact ⟨_, _, _, _, rfl, b4, by omega, by omega, hA6⟩
    · exact ⟨_, _, _, _, rfl, b7, by omega, by omega, hY6⟩
  case post =>
    intro a' w' hdf h2 h3 hm hst
    obtain ⟨x0, x1, x2, hb2, ht2⟩ := hst 8 2 113 _ (by decide) rfl
    obtain ⟨y0, y1, y2, hb3, ht3⟩ := hst 9 3 117 _ (by decide) rfl
    change Blk w' (w.heap.size + 1) x0 x1 x2 at hb2
    change Blk w' (w.heap.size + 1 + 1) y0 y1 y2 at hb3
    refine hK2 _ _ ?_
    refine wp_ret ?_
    obtain ⟨k2, s2, o2, l2, c2, rfl, rfl, rfl⟩ := ht2.cell3
    obtain ⟨k3, s3, o3, l3, c3, rfl, rfl, rfl⟩ := ht3.cell3
    obtain ⟨p0, p1, p2, _, _, _⟩ := three hb2
    obtain ⟨q0, q1, q2, _, _, _⟩ := three hb3
    refine bodyPost_ret (v := .tuple #[.agg #[.int .i64 k2, .string s2, .slice o2 l2 c2], .agg #[.int .i64 k3, .string s3, .slice o3 l3 c3]]) (by simp [results, Tryd.results35, go_sem, h2, h3, p0, p1, p2, q0, q1, q2]) (by rw [hdf]) ?_
    rw [← HO.out]
    exact ⟨hw6.trans hm (fun x hx => .inr (by omega)), _, _, _, _, _, _, rfl, ht2.mono (fun x hx _ => by omega), ht3.mono (fun x hx _ => by omega)⟩

end Go.Proofs.YtidihaecgmbhpaaDoor
/-
  Normal forms: til.
-/
set_option linter.unusedSimpArgs false
namespace Go.Proofs.YtidihaecgmbhpaaDoor
open Go.RowKit Q

set_option maxRecDepth 100000 in
set_option maxHeartbeats 8000000 in
theorem col_til (a c : F) (hA : ColP a) (hC : ColP c) : ColP (.b .til a c) := by
  intro w c0 c1 c2 h
  obtain ⟨b, p, cap, d0, d1, d2, i0, i1, i2, rfl, rfl, rfl, h0, h1, h2, ht, j0, j1, j2, htc⟩ := kid_b h
  have HA := hid (fun W (hm : Nu w W) => hA W d0 d1 d2 (ht.nu hm))
  have HC := hid (fun W (hm : Nu w W) => hC W i0 i1 i2 (htc.nu hm))
  have HJ := hid (And.intro j0 (And.intro j1 j2))
  obtain ⟨O, hO⟩ : ∃ O, ColOut (.b .til a c) w = O := ⟨_, rfl⟩
  rw [hO]
  have HO := hid hO
  have hst := seven7 w (.int .i64 B.til.kind) (.string (strOfL [])) (.slice (some ⟨b, p, none⟩) 2 cap)
  have HST := hid hst
  clear ht htc hA hC h j0 j1 j2 hO hst
  simp only [B.kind] at HST ⊢
  go_enter Tryd.func35, Tryd.ntmps35
  go_upto_region 2 with fail
  have hst := HST.out
  clear HST
  generalize hW0 : World.alloc _ _ = W0 at hst ⊢
  have HST := hid hst
  have x2 := (three hst.b1).c2
  have k0 := cell_mv hst.nu h0 id
  have k1 := cell_mv hst.nu h1 id
  have k2 := cell_mv hst.nu h2 id
  clear hst hW0
  go_wp2_with fail
  refine Calls.mono (HA.out _ HST.out.nu) ?_
  rintro e w1 ⟨hm1, a0, a1, a2, n0, n1, n2, rfl, hta, htn⟩
  obtain ⟨ka, sa, oa, la, ca, rfl, rfl, rfl⟩ := hta.cell3
  obtain ⟨kn, sn, on, ln, cn, rfl, rfl, rfl⟩ := htn.cell3
  have HM1 := hid hm1
  have HTA := hid hta
  have HTN := hid htn
  obtain ⟨y0, y1, y2, f0, f1, f2⟩ := three (hm1.heap HST.out.b4 id)
  obtain ⟨z0, z1, z2, g0, g1, g2⟩ := three (hm1.heap HST.out.b6 id)
  replace x2 := cell_mv hm1 x2 id
  clear hm1 hta htn k0 k1 k2
  go_upto_region 4 with fail
  generalize hW2 : World.setCell (World.setCell (World.setCell (World.setCell (World.setCell (World.setCell _ _ _) _ _) _ _) _ _) _ _) _ _ = W2
  have s4 := set3 (HM1.out.heap HST.out.b4 id) (.int .i64 ka) (.string sa) (.slice oa la ca)
  have s6 := set3 (s4.mv.heap (HM1.out.heap HST.out.b6 id) (by omega)) (.int .i64 kn) (.string sn) (.slice on ln cn)
  rw [hW2] at s6
  have H4 := hid s4
  have H6 := hid s6
  have hx2 : W2.cell? ⟨w.heap.size, 2, none⟩ = some (.slice (some ⟨b, p, none⟩) 2 cap) := cell_mv s6.mv (cell_mv s4.mv x2 (by omega)) (by omega)
  have hx0 : W2.cell? ⟨w.heap.size, 0, none⟩ = some (.int .i64 12) := cell_mv s6.mv (cell_mv s4.mv (cell_mv HM1.out (three HST.out.b1).c0 id) (by omega)) (by omega)
  clear s4 s6 hW2 x2 y0 y1 y2 f0 f1 f2 z0 z1 z2 g0 g1 g2
  have hw2 : Nu w W2 := ((HST.out.nu.trans HM1.out (fun _ h => h.elim)).trans H4.out.mv (fun x hx => .inr (by omega))).trans H6.out.mv (fun x hx => .inr (by omega))
  have HW2 := hid hw2
  have k0 := cell_mv hw2 HJ.out.1 id
  have k1 := cell_mv hw2 HJ.out.2.1 id
  have k2 := cell_mv hw2 HJ.out.2.2 id
  clear hw2 h0 h1 h2
  go_wp2_with fail
  refine Calls.mono (HC.out _ HW2.out) ?_
  rintro e w7 ⟨hm7, a0, a1, a2, n0, n1, n2, rfl, htb, hty⟩
  obtain ⟨kb, sb, ob, lb, cb, rfl, rfl, rfl⟩ := htb.cell3
  obtain ⟨ky, sy, oy, ly, cy, rfl, rfl, rfl⟩ := hty.cell3
  have HM7 := hid hm7
  have HTB := hid htb
  have HTY := hid hty
  have e5 := hm7.heap (H6.out.mv.heap (H4.out.mv.heap (HM1.out.heap HST.out.b5 id) (by omega)) (by omega)) id
  have e7 := hm7.heap (H6.out.mv.heap (H4.out.mv.heap (HM1.out.heap HST.out.b7 id) (by omega)) (by omega)) id
  have E5 := hid e5
  have E7 := hid e7
  obtain ⟨y0, y1, y2, f0, f1, f2⟩ := three e5
  obtain ⟨z0, z1, z2, g0, g1, g2⟩ := three e7
  replace hx0 := cell_mv hm7 hx0 id
  clear hm7 htb hty k0 k1 k2 hx2 e5 e7
  go_upto_region 6 with fail
  generalize hW8 : World.setCell (World.setCell (World.setCell (World.setCell (World.setCell (World.setCell _ _ _) _ _) _ _) _ _) _ _) _ _ = W8
  have s5 := set3 E5.out (.int .i64 kb) (.string sb) (.slice ob lb cb)
  have s7 := set3 (s5.mv.heap E7.out (by omega)) (.int .i64 ky) (.string sy) (.slice oy ly cy)
  rw [hW8] at s7
  have H5 := hid s5
  have H7 := hid s7
  replace hx0 := cell_mv s7.mv (cell_mv s5.mv hx0 (by omega)) (by omega)
  clear s5 s7 hW8 y0 y1 y2 f0 f1 f2 z0 z1 z2 g0 g1 g2
  go_wp2_with fail
  refine Calls.mono (part_any _ _ _ _ _) ?_
  rintro e w3 ⟨rfl, hm3⟩
  have HM3 := hid hm3
  replace hx0 := cell_mv hm3 hx0 id
  have hlt3 : w.heap.size < w3.heap.size := World.block_lt_of_cell? w3 _ hx0
  clear hm3
  go_wp2_with fail
  refine Calls.mono (part_any _ _ _ _ _) ?_
  rintro e w5 ⟨rfl, hm5⟩
  have HM5 := hid hm5
  replace hx0 := cell_mv (mv0 (Mv.alloc (fun _ => False) w3 _) hm5) hx0 id
  have hlt5 : w.heap.size < w5.heap.size := World.block_lt_of_cell? w5 _ hx0
  clear hm5
  go_upto_region 33 with fail
  generalize hW6 : World.alloc _ _ = W6
  have hn26 : Nu W8 W6 := by rw [← hW6]; exact mv0 (mv0 (mv0 HM3.out (Mv.alloc _ _ _)) HM5.out) (Mv.alloc _ _ _)
  have hs0 : w.heap.size + 1 + 1 + 1 + 1 + 1 + 1 < W0.heap.size := lt_of_block HST.out.b7
  have hs1 := HM1.out.size
  have hs4 := H4.out.sz
  have hs6 := H6.out.sz
  have hs7 := HM7.out.size
  have hs5 := H5.out.sz
  have hs8 := H7.out.sz
  have hs26 := hn26.size
  have hA6 : TIn W6 (fun b => W0.heap.size ≤ b) (.int .i64 ka) (.string sa) (.slice oa la ca) (col true a).t := (((((HTA.out.mv H4.out.mv (fun x hx _ e => by omega)).mv H6.out.mv (fun x hx _ e => by omega)).nu HM7.out).mv H5.out.mv (fun x hx _ e => by omega)).mv H7.out.mv (fun x hx _ e => by omega)).nu hn26
  have b4 := hn26.heap (H7.out.mv.heap (H5.out.mv.heap (HM7.out.heap (H6.out.mv.heap H4.out.blk (by omega)) id) (by omega)) (by omega)) id
  have hN6 : TIn W6 (fun b => W0.heap.size ≤ b) (.int .i64 kn) (.string sn) (.slice on ln cn) (col false a).t := (((((HTN.out.mv H4.out.mv (fun x hx _ e => by omega)).mv H6.out.mv (fun x hx _ e => by omega)).nu HM7.out).mv H5.out.mv (fun x hx _ e => by omega)).mv H7.out.mv (fun x hx _ e => by omega)).nu hn26
  have b6 := hn26.heap (H7.out.mv.heap (H5.out.mv.heap (HM7.out.heap H6.out.blk id) (by omega)) (by omega)) id
  have hB6 : TIn W6 (fun b => W0.heap.size ≤ b) (.int .i64 kb) (.string sb) (.slice ob lb cb) (col true c).t := (((HTB.out.mv H5.out.mv (fun x hx _ e => by omega)).mv H7.out.mv (fun x hx _ e => by omega)).nu hn26).mono (fun x hx _ => by omega)
  have b5 := hn26.heap (H7.out.mv.heap H5.out.blk (by omega)) id
  have hY6 : TIn W6 (fun b => W0.heap.size ≤ b) (.int .i64 ky) (.string sy) (.slice oy ly cy) (col false c).t := (((HTY.out.mv H5.out.mv (fun x hx _ e => by omega)).mv H7.out.mv (fun x hx _ e => by omega)).nu hn26).mono (fun x hx _ => by omega)
  have b7 := hn26.heap H7.out.blk id
  have b2 := hn26.heap (H7.out.mv.heap (H5.out.mv.heap (HM7.out.heap (H6.out.mv.heap (H4.out.mv.heap (HM1.out.heap HST.out.b2 id) (by omega)) (by omega)) id) (by omega)) (by omega)) id
  have b3 := hn26.heap (H7.out.mv.heap (H5.out.mv.heap (HM7.out.heap (H6.out.mv.heap (H4.out.mv.heap (HM1.out.heap HST.out.b3 id) (by omega)) (by omega)) id) (by omega)) (by omega)) id
  have hw6 : Nu w W6 := (((HW2.out.trans HM7.out (fun _ h => h.elim)).trans H5.out.mv (fun x hx => .inr (by omega))).trans H7.out.mv (fun x hx => .inr (by omega))).trans hn26 (fun _ h => h.elim)
  rename_i K1 hK1 K2 hK2
  refine wp_plan (P0 := fun b => W0.heap.size ≤ b) (B2 := w.heap.size + 1) (B3 := w.heap.size + 1 + 1) (plan := [.load 142 4 (col true a).t, .load 143 5 (col true c).t, .bs2 144 142 143 (col true a).t (col true c).t, .call 145 12 144 [(col true a).t, (col true c).t], .load 146 6 (col false a).t, .load 147 7 (col false c).t, .bs2 148 146 147 (col false a).t (col false c).t, .call 149 13 148 [(col false a).t, (col false c).t], .store 2 145 (.mk 12 [] [(col true a).t, (col true c).t]), .store 3 149 (.mk 13 [] [(col false a).t, (col false c).t])])
    (by kernel_rfl) ?plan (fun x hx => by omega) (fun x hx => by omega) (by omega) ?loads rfl rfl (fun p => by unfold Bp; split; exact ⟨_, _, _, b2⟩; exact ⟨_, _, _, b3⟩) ?post
  case plan =>
    refine isPlan_mk (fun i o ho => ?_) (by rfl)
    have hi : i < 10 := (Array.getElem?_eq_some_iff.1 ho).1
    have : i = 0 ∨ i = 1 ∨ i = 2 ∨ i = 3 ∨ i = 4 ∨ i = 5 ∨ i = 6 ∨ i = 7 ∨ i = 8 ∨ i = 9 := by omega
    rcases this with rfl | rfl | rfl | rfl | rfl | rfl | rfl | rfl | rfl | rfl <;> cases ho
    · exact ⟨_, rfl, rfl, rfl, rfl, trivial, rfl⟩
    · exact ⟨_, rfl, rfl, rfl, rfl, trivial, rfl⟩
    · exact ⟨_, rfl, rfl, rfl, rfl, ⟨⟨⟨0, .data⟩, by simp, rfl, _, rfl, rfl⟩, ⟨⟨1, .data⟩, by simp, rfl, _, rfl, rfl⟩⟩, rfl⟩
    · exact ⟨_, rfl, rfl, rfl, rfl, ⟨⟨⟨2, .data⟩, by simp, rfl, _, rfl, rfl⟩, by decide⟩, rfl⟩
    · exact ⟨_, rfl, rfl, rfl, rfl, trivial, rfl⟩
    · exact ⟨_, rfl, rfl, rfl, rfl, trivial, rfl⟩
    · exact ⟨_, rfl, rfl, rfl, rfl, ⟨⟨⟨4, .data⟩, by simp, rfl, _, rfl, rfl⟩, ⟨⟨5, .data⟩, by simp, rfl, _, rfl, rfl⟩⟩, rfl⟩
    · exact ⟨_, rfl, rfl, rfl, rfl, ⟨⟨⟨6, .data⟩, by simp, rfl, _, rfl, rfl⟩, by decide⟩, rfl⟩
    · exact ⟨_, rfl, rfl, rfl, rfl, ⟨⟨3, .data⟩, by simp, rfl, _, rfl, rfl⟩, rfl⟩
    · exact ⟨_, rfl, rfl, rfl, rfl, ⟨⟨7, .data⟩, by simp, rfl, _, rfl, rfl⟩, rfl⟩
  case loads =>
    intro i d s t hi
    have : i < 10 := (List.getElem?_eq_some_iff.1 hi).1
    have : i = 0 ∨ i = 1 ∨ i = 2 ∨ i = 3 ∨ i = 4 ∨ i = 5 ∨ i = 6 ∨ i = 7 ∨ i = 8 ∨ i = 9 := by omega
    rcases this with rfl | rfl | rfl | rfl | rfl | rfl | rfl | rfl | rfl | rfl <;> cases hi
    · exact ⟨_, _, _, _, rfl, b4, by omega, by omega, hA6⟩
    · exact ⟨_, _, _, _, rfl, b5, by omega, by omega, hB6⟩
    · exact ⟨_, _, _, _, rfl, b6, by omega, by omega, hN6⟩
    · exact ⟨_, _, _, _, rfl, b7, by omega, by omega, hY6⟩
  case post =>
    intro a' w' hdf h2 h3 hm hst
    obtain ⟨x0, x1, x2, hb2, ht2⟩ := hst 8 2 145 _ (by decide) rfl
    obtain ⟨y0, y1, y2, hb3, ht3⟩ := hst 9 3 149 _ (by decide) rfl
    change Blk w' (w.heap.size + 1) x0 x1 x2 at hb2
    change Blk w' (w.heap.size + 1 + 1) y0 y1 y2 at hb3
    refine hK2 _ _ ?_
    refine wp_ret ?_
    obtain ⟨k2, s2, o2, l2, c2, rfl, rfl, rfl⟩ := ht2.cell3
    obtain ⟨k3, s3, o3, l3, c3, rfl, rfl, rfl⟩ := ht3.cell3
    obtain ⟨p0, p1, p2, _, _, _⟩ := three hb2
    obtain ⟨q0, q1, q2, _, _, _⟩ := three hb3
    refine bodyPost_ret (v := .tuple #[.agg #[.int .i64 k2, .string s2, .slice o2 l2 c2], .agg #[.int .i64 k3, .string s3, .slice o3 l3 c3]]) (by simp [results, Tryd.results35, go_sem, h2, h3, p0, p1, p2, q0, q1, q2]) (by rw [hdf]) ?_
    rw [← HO.out]
    exact ⟨hw6.trans hm (fun x hx => .inr (by omega)), _, _, _, _, _, _, rfl, ht2.mono (fun x hx _ => by omega), ht3.mono (fun x hx _ => by omega)⟩

end Go.Proofs.YtidihaecgmbhpaaDoor
