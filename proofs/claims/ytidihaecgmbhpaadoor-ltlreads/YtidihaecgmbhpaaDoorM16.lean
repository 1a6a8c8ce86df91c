/-
  QColIff, QColRel, QColWeak, QColAll, QNorm, QForm, QPf0.
-/
import Derived.Test.YtidihaecgmbhpaaDoorM12
import Derived.Test.YtidihaecgmbhpaaDoorM14
import Derived.Test.YtidihaecgmbhpaaDoorM15
import Derived.Test.YtidihaecgmbhpaaDoorM9
/-
  Normal forms: iff.
-/
set_option linter.unusedSimpArgs false
namespace Go.Proofs.YtidihaecgmbhpaaDoor
open Go.RowKit Q

set_option maxRecDepth 100000 in
set_option maxHeartbeats 8000000 in
theorem col_iff (a c : F) (hA : ColP a) (hC : ColP c) : ColP (.b .iff a c) := by
  intro w c0 c1 c2 h
  obtain ⟨b, p, cap, d0, d1, d2, i0, i1, i2, rfl, rfl, rfl, h0, h1, h2, ht, j0, j1, j2, htc⟩ := kid_b h
  have HA := hid (fun W (hm : Nu w W) => hA W d0 d1 d2 (ht.nu hm))
  have HC := hid (fun W (hm : Nu w W) => hC W i0 i1 i2 (htc.nu hm))
  have HJ := hid (And.intro j0 (And.intro j1 j2))
  obtain ⟨O, hO⟩ : ∃ O, ColOut (.b .iff a c) w = O := ⟨_, rfl⟩
  rw [hO]
  have HO := hid hO
  have hst := seven7 w (.int .i64 B.iff.kind) (.string (strOfL [])) (.slice (some ⟨b, p, none⟩) 2 cap)
  have HST := hid hst
  clear ht htc hA hC h j0 j1 j2 hO hst
  simp only [B.kind] at HST ⊢
  go_enter Tryd.func35, Tryd.ntmps35
  go_upto_region 2 with fail
  have hst := HST.out
  clear HST
  generalize hW0 : World.alloc _ _ = W0 at hst ⊢
  have HST := hid hst
  have x2 := (three hst.b1).c2
  have k0 := cell_mv hst.nu h0 id
  have k1 := cell_mv hst.nu h1 id
  have k2 := cell_mv hst.nu h2 id
  clear hst hW0
  go_wp2_with fail
  refine Calls.mono (HA.out _ HST.out.nu) ?_
  rintro e w1 ⟨hm1, a0, a1, a2, n0, n1, n2, rfl, hta, htn⟩
  obtain ⟨ka, sa, oa, la, ca, rfl, rfl, rfl⟩ := hta.cell3
  obtain ⟨kn, sn, on, ln, cn, rfl, rfl, rfl⟩ := htn.cell3
  have HM1 := hid hm1
  have HTA := hid hta
  have HTN := hid htn
  obtain ⟨y0, y1, y2, f0, f1, f2⟩ := three (hm1.heap HST.out.b4 id)
  obtain ⟨z0, z1, z2, g0, g1, g2⟩ := three (hm1.heap HST.out.b6 id)
  replace x2 := cell_mv hm1 x2 id
  clear hm1 hta htn k0 k1 k2
  go_upto_region 4 with fail
  generalize hW2 : World.setCell (World.setCell (World.setCell (World.setCell (World.setCell (World.setCell _ _ _) _ _) _ _) _ _) _ _) _ _ = W2
  have s4 := set3 (HM1.out.heap HST.out.b4 id) (.int .i64 ka) (.string sa) (.slice oa la ca)
  have s6 := set3 (s4.mv.heap (HM1.out.heap HST.out.b6 id) (by omega)) (.int .i64 kn) (.string sn) (.slice on ln cn)
  rw [hW2] at s6
  have H4 := hid s4
  have H6 := hid s6
  have hx2 : W2.cell? ⟨w.heap.size, 2, none⟩ = some (.slice (some ⟨b, p, none⟩) 2 cap) := cell_mv s6.mv (cell_mv s4.mv x2 (by omega)) (by omega)
  have hx0 : W2.cell? ⟨w.heap.size, 0, none⟩ = some (.int .i64 11) := cell_mv s6.mv (cell_mv s4.mv (cell_mv HM1.out (three HST.out.b1).c0 id) (by omega)) (by omega)
  clear s4 s6 hW2 x2 y0 y1 y2 f0 f1 f2 z0 z1 z2 g0 g1 g2
  have hw2 : Nu w W2 := ((HST.out.nu.trans HM1.out (fun _ h => h.elim)).trans H4.out.mv (fun x hx => .inr (by omega))).trans H6.out.mv (fun x hx => .inr (by omega))
  have HW2 := hid hw2
  have k0 := cell_mv hw2 HJ.out.1 id
  have k1 := cell_mv hw2 HJ.out.2.1 id
  have k2 := cell_mv hw2 HJ.out.2.2 id
  clear hw2 h0 h1 h2
  go_wp2_with fail
  refine Calls.mono (HC.out _ HW2.out) ?_
  rintro e w7 ⟨hm7, a0, a1, a2, n0, n1, n2, rfl, htb, hty⟩
  obtain ⟨kb, sb, ob, lb, cb, rfl, rfl, rfl⟩ := htb.cell3
  obtain ⟨ky, sy, oy, ly, cy, rfl, rfl, rfl⟩ := hty.cell3
  have HM7 := hid hm7
  have HTB := hid htb
  have HTY := hid hty
  have e5 := hm7.heap (H6.out.mv.heap (H4.out.mv.heap (HM1.out.heap HST.out.b5 id) (by omega)) (by omega)) id
  have e7 := hm7.heap (H6.out.mv.heap (H4.out.mv.heap (HM1.out.heap HST.out.b7 id) (by omega)) (by omega)) id
  have E5 := hid e5
  have E7 := hid e7
  obtain ⟨y0, y1, y2, f0, f1, f2⟩ := three e5
  obtain ⟨z0, z1, z2, g0, g1, g2⟩ := three e7
  replace hx0 := cell_mv hm7 hx0 id
  clear hm7 htb hty k0 k1 k2 hx2 e5 e7
  go_upto_region 6 with fail
  generalize hW8 : World.setCell (World.setCell (World.setCell (World.setCell (World.setCell (World.setCell _ _ _) _ _) _ _) _ _) _ _) _ _ = W8
  have s5 := set3 E5.out (.int .i64 kb) (.string sb) (.slice ob lb cb)
  have s7 := set3 (s5.mv.heap E7.out (by omega)) (.int .i64 ky) (.string sy) (.slice oy ly cy)
  rw [hW8] at s7
  have H5 := hid s5
  have H7 := hid s7
  replace hx0 := cell_mv s7.mv (cell_mv s5.mv hx0 (by omega)) (by omega)
  clear s5 s7 hW8 y0 y1 y2 f0 f1 f2 z0 z1 z2 g0 g1 g2
  go_wp2_with fail
  refine Calls.mono (part_any _ _ _ _ _) ?_
  rintro e w3 ⟨rfl, hm3⟩
  have HM3 := hid hm3
  replace hx0 := cell_mv hm3 hx0 id
  have hlt3 : w.heap.size < w3.heap.size := World.block_lt_of_cell? w3 _ hx0
  clear hm3
  go_wp2_with fail
  refine Calls.mono (part_any _ _ _ _ _) ?_
  rintro e w5 ⟨rfl, hm5⟩
  have HM5 := hid hm5
  replace hx0 := cell_mv (mv0 (Mv.alloc (fun _ => False) w3 _) hm5) hx0 id
  have hlt5 : w.heap.size < w5.heap.size := World.block_lt_of_cell? w5 _ hx0
  clear hm5
  go_upto_region 31 with fail
  generalize hW6 : World.alloc _ _ = W6
  have hn26 : Nu W8 W6 := by rw [← hW6]; exact mv0 (mv0 (mv0 HM3.out (Mv.alloc _ _ _)) HM5.out) (Mv.alloc _ _ _)
  have hs0 : w.heap.size + 1 + 1 + 1 + 1 + 1 + 1 < W0.heap.size := lt_of_block HST.out.b7
  have hs1 := HM1.out.size
  have hs4 := H4.out.sz
  have hs6 := H6.out.sz
  have hs7 := HM7.out.size
  have hs5 := H5.out.sz
  have hs8 := H7.out.sz
  have hs26 := hn26.size
  have hA6 : TIn W6 (fun b => W0.heap.size ≤ b) (.int .i64 ka) (.string sa) (.slice oa la ca) (col true a).t := (((((HTA.out.mv H4.out.mv (fun x hx _ e => by omega)).mv H6.out.mv (fun x hx _ e => by omega)).nu HM7.out).mv H5.out.mv (fun x hx _ e => by omega)).mv H7.out.mv (fun x hx _ e => by omega)).nu hn26
  have b4 := hn26.heap (H7.out.mv.heap (H5.out.mv.heap (HM7.out.heap (H6.out.mv.heap H4.out.blk (by omega)) id) (by omega)) (by omega)) id
  have hN6 : TIn W6 (fun b => W0.heap.size ≤ b) (.int .i64 kn) (.string sn) (.slice on ln cn) (col false a).t := (((((HTN.out.mv H4.out.mv (fun x hx _ e => by omega)).mv H6.out.mv (fun x hx _ e => by omega)).nu HM7.out).mv H5.out.mv (fun x hx _ e => by omega)).mv H7.out.mv (fun x hx _ e => by omega)).nu hn26
  have b6 := hn26.heap (H7.out.mv.heap (H5.out.mv.heap (HM7.out.heap H6.out.blk id) (by omega)) (by omega)) id
  have hB6 : TIn W6 (fun b => W0.heap.size ≤ b) (.int .i64 kb) (.string sb) (.slice ob lb cb) (col true c).t := (((HTB.out.mv H5.out.mv (fun x hx _ e => by omega)).mv H7.out.mv (fun x hx _ e => by omega)).nu hn26).mono (fun x hx _ => by omega)
  have b5 := hn26.heap (H7.out.mv.heap H5.out.blk (by omega)) id
  have hY6 : TIn W6 (fun b => W0.heap.size ≤ b) (.int .i64 ky) (.string sy) (.slice oy ly cy) (col false c).t := (((HTY.out.mv H5.out.mv (fun x hx _ e => by omega)).mv H7.out.mv (fun x hx _ e => by omega)).nu hn26).mono (fun x hx _ => by omega)
  have b7 := hn26.heap H7.out.blk id
  have b2 := hn26.heap (H7.out.mv.heap (H5.out.mv.heap (HM7.out.heap (H6.out.mv.heap (H4.out.mv.heap (HM1.out.heap HST.out.b2 id) (by omega)) (by omega)) id) (by omega)) (by omega)) id
  have b3 := hn26.heap (H7.out.mv.heap (H5.out.mv.heap (HM7.out.heap (H6.out.mv.heap (H4.out.mv.heap (HM1.out.heap HST.out.b3 id) (by omega)) (by omega)) id) (by omega)) (by omega)) id
  have hw6 : Nu w W6 := (((HW2.out.trans HM7.out (fun _ h => h.elim)).trans H5.out.mv (fun x hx => .inr (by omega))).trans H7.out.mv (fun x hx => .inr (by omega))).trans hn26 (fun _ h => h.elim)
  rename_i K1 hK1 K2 hK2
  refine wp_plan (P0 := fun b => W0.heap.size ≤ b) (B2 := w.heap.size + 1) (B3 := w.heap.size + 1 + 1) (plan := [.load 120 4 (col true a).t, .load 121 5 (col true c).t, .bs2 122 120 121 (col true a).t (col true c).t, .call 123 8 122 [(col true a).t, (col true c).t], .load 124 6 (col false a).t, .load 125 7 (col false c).t, .bs2 126 124 125 (col false a).t (col false c).t, .call 127 8 126 [(col false a).t, (col false c).t], .bs2 128 123 127 (.mk 8 [] [(col true a).t, (col true c).t]) (.mk 8 [] [(col false a).t, (col false c).t]), .call 129 9 128 [(.mk 8 [] [(col true a).t, (col true c).t]), (.mk 8 [] [(col false a).t, (col false c).t])], .load 130 4 (col true a).t, .load 131 7 (col false c).t, .bs2 132 130 131 (col true a).t (col false c).t, .call 133 8 132 [(col true a).t, (col false c).t], .load 134 6 (col false a).t, .load 135 5 (col true c).t, .bs2 136 134 135 (col false a).t (col true c).t, .call 137 8 136 [(col false a).t, (col true c).t], .bs2 138 133 137 (.mk 8 [] [(col true a).t, (col false c).t]) (.mk 8 [] [(col false a).t, (col true c).t]), .call 139 9 138 [(.mk 8 [] [(col true a).t, (col false c).t]), (.mk 8 [] [(col false a).t, (col true c).t])], .store 2 129 (.mk 9 [] [(.mk 8 [] [(col true a).t, (col true c).t]), (.mk 8 [] [(col false a).t, (col false c).t])]), .store 3 139 (.mk 9 [] [(.mk 8 [] [(col true a).t, (col false c).t]), (.mk 8 [] [(col false a).t, (col true c).t])])])
    (by kernel_rfl) ?plan (fun x hx => by omega) (fun x hx => by omega) (by omega) ?loads rfl rfl (fun p => by unfold Bp; split; exact ⟨_, _, _, b2⟩; exact ⟨_, _, _, b3⟩) ?post
  case plan =>
    refine isPlan_mk (fun i o ho => ?_) (by rfl)
    have hi : i < 22 := (Array.getElem?_eq_some_iff.1 ho).1
    have : i = 0 ∨ i = 1 ∨ i = 2 ∨ i = 3 ∨ i = 4 ∨ i = 5 ∨ i = 6 ∨ i = 7 ∨ i = 8 ∨ i = 9 ∨ i = 10 ∨ i = 11 ∨ i = 12 ∨ i = 13 ∨ i = 14 ∨ i = 15 ∨ i = 16 ∨ i = 17 ∨ i = 18 ∨ i = 19 ∨ i = 20 ∨ i = 21 := by omega
    rcases this with rfl | rfl | rfl | rfl | rfl | rfl | rfl | rfl | rfl | rfl | rfl | rfl | rfl | rfl | rfl | rfl | rfl | rfl | rfl | rfl | rfl | rfl <;> cases ho
    · exact ⟨_, rfl, rfl, rfl, rfl, trivial, rfl⟩
    · exact ⟨_, rfl, rfl, rfl, rfl, trivial, rfl⟩
    · exact ⟨_, rfl, rfl, rfl, rfl, ⟨⟨⟨0, .data⟩, by simp, rfl, _, rfl, rfl⟩, ⟨⟨1, .data⟩, by simp, rfl, _, rfl, rfl⟩⟩, rfl⟩
    · exact ⟨_, rfl, rfl, rfl, rfl, ⟨⟨⟨2, .data⟩, by simp, rfl, _, rfl, rfl⟩, by decide⟩, rfl⟩
    · exact ⟨_, rfl, rfl, rfl, rfl, trivial, rfl⟩
    · exact ⟨_, rfl, rfl, rfl, rfl, trivial, rfl⟩
    · exact ⟨_, rfl, rfl, rfl, rfl, ⟨⟨⟨4, .data⟩, by simp, rfl, _, rfl, rfl⟩, ⟨⟨5, .data⟩, by simp, rfl, _, rfl, rfl⟩⟩, rfl⟩
    · exact ⟨_, rfl, rfl, rfl, rfl, ⟨⟨⟨6, .data⟩, by simp, rfl, _, rfl, rfl⟩, by decide⟩, rfl⟩
    · exact ⟨_, rfl, rfl, rfl, rfl, ⟨⟨⟨3, .data⟩, by simp, rfl, _, rfl, rfl⟩, ⟨⟨7, .data⟩, by simp, rfl, _, rfl, rfl⟩⟩, rfl⟩
    · exact ⟨_, rfl, rfl, rfl, rfl, ⟨⟨⟨8, .data⟩, by simp, rfl, _, rfl, rfl⟩, by decide⟩, rfl⟩
    · exact ⟨_, rfl, rfl, rfl, rfl, trivial, rfl⟩
    · exact ⟨_, rfl, rfl, rfl, rfl, trivial, rfl⟩
    · exact ⟨_, rfl, rfl, rfl, rfl, ⟨⟨⟨10, .data⟩, by simp, rfl, _, rfl, rfl⟩, ⟨⟨11, .data⟩, by simp, rfl, _, rfl, rfl⟩⟩, rfl⟩
    · exact ⟨_, rfl, rfl, rfl, rfl, ⟨⟨⟨12, .data⟩, by simp, rfl, _, rfl, rfl⟩, by decide⟩, rfl⟩
    · exact ⟨_, rfl, rfl, rfl, rfl, trivial, rfl⟩
    · exact ⟨_, rfl, rfl, rfl, rfl, trivial, rfl⟩
    · exact ⟨_, rfl, rfl, rfl, rfl, ⟨⟨⟨14, .data⟩, by simp, rfl, _, rfl, rfl⟩, ⟨⟨15, .data⟩, by simp, rfl, _, rfl, rfl⟩⟩, rfl⟩
    · exact ⟨_, rfl, rfl, rfl, rfl, ⟨⟨⟨16, .data⟩, by simp, rfl, _, rfl, rfl⟩, by decide⟩, rfl⟩
    · exact ⟨_, rfl, rfl, rfl, rfl, ⟨⟨⟨13, .data⟩, by simp, rfl, _, rfl, rfl⟩, ⟨⟨17, .data⟩, by simp, rfl, _, rfl, rfl⟩⟩, rfl⟩
    · exact ⟨_, rfl, rfl, rfl, rfl, ⟨⟨⟨18, .data⟩, by simp, rfl, _, rfl, rfl⟩, by decide⟩, rfl⟩
    · exact ⟨_, rfl, rfl, rfl, rfl, ⟨⟨9, .data⟩, by simp, rfl, _, rfl, rfl⟩, rfl⟩
    · exact ⟨_, rfl, rfl, rfl, rfl, ⟨⟨19, .data⟩, by simp, rfl, _, rfl, rfl⟩, rfl⟩
  case loads =>
    intro i d s t hi
    have : i < 22 := (List.getElem?_eq_some_iff.1 hi).1
    have : i = 0 ∨ i = 1 ∨ i = 2 ∨ i = 3 ∨ i = 4 ∨ i = 5 ∨ i = 6 ∨ i = 7 ∨ i = 8 ∨ i = 9 ∨ i = 10 ∨ i = 11 ∨ i = 12 ∨ i = 13 ∨ i = 14 ∨ i = 15 ∨ i = 16 ∨ i = 17 ∨ i = 18 ∨ i = 19 ∨ i = 20 ∨ i = 21 := by omega
    rcases this with rfl | rfl | rfl | rfl | rfl | rfl | rfl | rfl | rfl | rfl | rfl | rfl | rfl | rfl | rfl | rfl | rfl | rfl | rfl | rfl | rfl | rfl <;> cases hi
    · exact ⟨_, _, _, _, rfl, b4, by omega, by omega, hA6⟩
    · exact ⟨_, _, _, _, rfl, b5, by omega, by omega, hB6⟩
    · exact ⟨_, _, _, _, rfl, b6, by omega, by omega, hN6⟩
    · exact ⟨_, _, _, _, rfl, b7, by omega, by omega, hY6⟩
    · exact ⟨_, _, _, _, rfl, b4, by omega, by omega, hA6⟩
    · exact ⟨_, _, _, _, rfl, b7, by omega, by omega, hY6⟩
    · exact ⟨_, _, _, _, rfl, b6, by omega, by omega, hN6⟩
    · exact ⟨_, _, _, _, rfl, b5, by omega, by omega, hB6⟩
  case post =>
    intro a' w' hdf h2 h3 hm hst
    obtain ⟨x0, x1, x2, hb2, ht2⟩ := hst 20 2 129 _ (by decide) rfl
    obtain ⟨y0, y1, y2, hb3, ht3⟩ := hst 21 3 139 _ (by decide) rfl
    change Blk w' (w.heap.size + 1) x0 x1 x2 at hb2
    change Blk w' (w.heap.size + 1 + 1) y0 y1 y2 at hb3
    refine hK2 _ _ ?_
    refine wp_ret ?_
    obtain ⟨k2, s2, o2, l2, c2, rfl, rfl, rfl⟩ := ht2.cell3
    obtain ⟨k3, s3, o3, l3, c3, rfl, rfl, rfl⟩ := ht3.cell3
    obtain ⟨p0, p1, p2, _, _, _⟩ := three hb2
    obtain ⟨q0, q1, q2, _, _, _⟩ := three hb3
    refine bodyPost_ret (v := .tuple #[.agg #[.int .i64 k2, .string s2, .slice o2 l2 c2], .agg #[.int .i64 k3, .string s3, .slice o3 l3 c3]]) (by simp [results, Tryd.results35, go_sem, h2, h3, p0, p1, p2, q0, q1, q2]) (by rw [hdf]) ?_
    rw [← HO.out]
    exact ⟨hw6.trans hm (fun x hx => .inr (by omega)), _, _, _, _, _, _, rfl, ht2.mono (fun x hx _ => by omega), ht3.mono (fun x hx _ => by omega)⟩

end Go.Proofs.YtidihaecgmbhpaaDoor
/-
  Normal forms: rel.
-/
set_option linter.unusedSimpArgs false
namespace Go.Proofs.YtidihaecgmbhpaaDoor
open Go.RowKit Q

set_option maxRecDepth 100000 in
set_option maxHeartbeats 8000000 in
theorem col_rel (a c : F) (hA : ColP a) (hC : ColP c) : ColP (.b .rel a c) := by
  intro w c0 c1 c2 h
  obtain ⟨b, p, cap, d0, d1, d2, i0, i1, i2, rfl, rfl, rfl, h0, h1, h2, ht, j0, j1, j2, htc⟩ := kid_b h
  have HA := hid (fun W (hm : Nu w W) => hA W d0 d1 d2 (ht.nu hm))
  have HC := hid (fun W (hm : Nu w W) => hC W i0 i1 i2 (htc.nu hm))
  have HJ := hid (And.intro j0 (And.intro j1 j2))
  obtain ⟨O, hO⟩ : ∃ O, ColOut (.b .rel a c) w = O := ⟨_, rfl⟩
  rw [hO]
  have HO := hid hO
  have hst := seven7 w (.int .i64 B.rel.kind) (.string (strOfL [])) (.slice (some ⟨b, p, none⟩) 2 cap)
  have HST := hid hst
  clear ht htc hA hC h j0 j1 j2 hO hst
  simp only [B.kind] at HST ⊢
  go_enter Tryd.func35, Tryd.ntmps35
  go_upto_region 2 with fail
  have hst := HST.out
  clear HST
  generalize hW0 : World.alloc _ _ = W0 at hst ⊢
  have HST := hid hst
  have x2 := (three hst.b1).c2
  have k0 := cell_mv hst.nu h0 id
  have k1 := cell_mv hst.nu h1 id
  have k2 := cell_mv hst.nu h2 id
  clear hst hW0
  go_wp2_with fail
  refine Calls.mono (HA.out _ HST.out.nu) ?_
  rintro e w1 ⟨hm1, a0, a1, a2, n0, n1, n2, rfl, hta, htn⟩
  obtain ⟨ka, sa, oa, la, ca, rfl, rfl, rfl⟩ := hta.cell3
  obtain ⟨kn, sn, on, ln, cn, rfl, rfl, rfl⟩ := htn.cell3
  have HM1 := hid hm1
  have HTA := hid hta
  have HTN := hid htn
  obtain ⟨y0, y1, y2, f0, f1, f2⟩ := three (hm1.heap HST.out.b4 id)
  obtain ⟨z0, z1, z2, g0, g1, g2⟩ := three (hm1.heap HST.out.b6 id)
  replace x2 := cell_mv hm1 x2 id
  clear hm1 hta htn k0 k1 k2
  go_upto_region 4 with fail
  generalize hW2 : World.setCell (World.setCell (World.setCell (World.setCell (World.setCell (World.setCell _ _ _) _ _) _ _) _ _) _ _) _ _ = W2
  have s4 := set3 (HM1.out.heap HST.out.b4 id) (.int .i64 ka) (.string sa) (.slice oa la ca)
  have s6 := set3 (s4.mv.heap (HM1.out.heap HST.out.b6 id) (by omega)) (.int .i64 kn) (.string sn) (.slice on ln cn)
  rw [hW2] at s6
  have H4 := hid s4
  have H6 := hid s6
  have hx2 : W2.cell? ⟨w.heap.size, 2, none⟩ = some (.slice (some ⟨b, p, none⟩) 2 cap) := cell_mv s6.mv (cell_mv s4.mv x2 (by omega)) (by omega)
  have hx0 : W2.cell? ⟨w.heap.size, 0, none⟩ = some (.int .i64 13) := cell_mv s6.mv (cell_mv s4.mv (cell_mv HM1.out (three HST.out.b1).c0 id) (by omega)) (by omega)
  clear s4 s6 hW2 x2 y0 y1 y2 f0 f1 f2 z0 z1 z2 g0 g1 g2
  have hw2 : Nu w W2 := ((HST.out.nu.trans HM1.out (fun _ h => h.elim)).trans H4.out.mv (fun x hx => .inr (by omega))).trans H6.out.mv (fun x hx => .inr (by omega))
  have HW2 := hid hw2
  have k0 := cell_mv hw2 HJ.out.1 id
  have k1 := cell_mv hw2 HJ.out.2.1 id
  have k2 := cell_mv hw2 HJ.out.2.2 id
  clear hw2 h0 h1 h2
  go_wp2_with fail
  refine Calls.mono (HC.out _ HW2.out) ?_
  rintro e w7 ⟨hm7, a0, a1, a2, n0, n1, n2, rfl, htb, hty⟩
  obtain ⟨kb, sb, ob, lb, cb, rfl, rfl, rfl⟩ := htb.cell3
  obtain ⟨ky, sy, oy, ly, cy, rfl, rfl, rfl⟩ := hty.cell3
  have HM7 := hid hm7
  have HTB := hid htb
  have HTY := hid hty
  have e5 := hm7.heap (H6.out.mv.heap (H4.out.mv.heap (HM1.out.heap HST.out.b5 id) (by omega)) (by omega)) id
  have e7 := hm7.heap (H6.out.mv.heap (H4.out.mv.heap (HM1.out.heap HST.out.b7 id) (by omega)) (by omega)) id
  have E5 := hid e5
  have E7 := hid e7
  obtain ⟨y0, y1, y2, f0, f1, f2⟩ := three e5
  obtain ⟨z0, z1, z2, g0, g1, g2⟩ := three e7
  replace hx0 := cell_mv hm7 hx0 id
  clear hm7 htb hty k0 k1 k2 hx2 e5 e7
  go_upto_region 6 with fail
  generalize hW8 : World.setCell (World.setCell (World.setCell (World.setCell (World.setCell (World.setCell _ _ _) _ _) _ _) _ _) _ _) _ _ = W8
  have s5 := set3 E5.out (.int .i64 kb) (.string sb) (.slice ob lb cb)
  have s7 := set3 (s5.mv.heap E7.out (by omega)) (.int .i64 ky) (.string sy) (.slice oy ly cy)
  rw [hW8] at s7
  have H5 := hid s5
  have H7 := hid s7
  replace hx0 := cell_mv s7.mv (cell_mv s5.mv hx0 (by omega)) (by omega)
  clear s5 s7 hW8 y0 y1 y2 f0 f1 f2 z0 z1 z2 g0 g1 g2
  go_wp2_with fail
  refine Calls.mono (part_any _ _ _ _ _) ?_
  rintro e w3 ⟨rfl, hm3⟩
  have HM3 := hid hm3
  replace hx0 := cell_mv hm3 hx0 id
  have hlt3 : w.heap.size < w3.heap.size := World.block_lt_of_cell? w3 _ hx0
  clear hm3
  go_wp2_with fail
  refine Calls.mono (part_any _ _ _ _ _) ?_
  rintro e w5 ⟨rfl, hm5⟩
  have HM5 := hid hm5
  replace hx0 := cell_mv (mv0 (Mv.alloc (fun _ => False) w3 _) hm5) hx0 id
  have hlt5 : w.heap.size < w5.heap.size := World.block_lt_of_cell? w5 _ hx0
  clear hm5
  go_upto_region 35 with fail
  generalize hW6 : World.alloc _ _ = W6
  have hn26 : Nu W8 W6 := by rw [← hW6]; exact mv0 (mv0 (mv0 HM3.out (Mv.alloc _ _ _)) HM5.out) (Mv.alloc _ _ _)
  have hs0 : w.heap.size + 1 + 1 + 1 + 1 + 1 + 1 < W0.heap.size := lt_of_block HST.out.b7
  have hs1 := HM1.out.size
  have hs4 := H4.out.sz
  have hs6 := H6.out.sz
  have hs7 := HM7.out.size
  have hs5 := H5.out.sz
  have hs8 := H7.out.sz
  have hs26 := hn26.size
  have hA6 : TIn W6 (fun b => W0.heap.size ≤ b) (.int .i64 ka) (.string sa) (.slice oa la ca) (col true a).t := (((((HTA.out.mv H4.out.mv (fun x hx _ e => by omega)).mv H6.out.mv (fun x hx _ e => by omega)).nu HM7.out).mv H5.out.mv (fun x hx _ e => by omega)).mv H7.out.mv (fun x hx _ e => by omega)).nu hn26
  have b4 := hn26.heap (H7.out.mv.heap (H5.out.mv.heap (HM7.out.heap (H6.out.mv.heap H4.out.blk (by omega)) id) (by omega)) (by omega)) id
  have hN6 : TIn W6 (fun b => W0.heap.size ≤ b) (.int .i64 kn) (.string sn) (.slice on ln cn) (col false a).t := (((((HTN.out.mv H4.out.mv (fun x hx _ e => by omega)).mv H6.out.mv (fun x hx _ e => by omega)).nu HM7.out).mv H5.out.mv (fun x hx _ e => by omega)).mv H7.out.mv (fun x hx _ e => by omega)).nu hn26
  have b6 := hn26.heap (H7.out.mv.heap (H5.out.mv.heap (HM7.out.heap H6.out.blk id) (by omega)) (by omega)) id
  have hB6 : TIn W6 (fun b => W0.heap.size ≤ b) (.int .i64 kb) (.string sb) (.slice ob lb cb) (col true c).t := (((HTB.out.mv H5.out.mv (fun x hx _ e => by omega)).mv H7.out.mv (fun x hx _ e => by omega)).nu hn26).mono (fun x hx _ => by omega)
  have b5 := hn26.heap (H7.out.mv.heap H5.out.blk (by omega)) id
  have hY6 : TIn W6 (fun b => W0.heap.size ≤ b) (.int .i64 ky) (.string sy) (.slice oy ly cy) (col false c).t := (((HTY.out.mv H5.out.mv (fun x hx _ e => by omega)).mv H7.out.mv (fun x hx _ e => by omega)).nu hn26).mono (fun x hx _ => by omega)
  have b7 := hn26.heap H7.out.blk id
  have b2 := hn26.heap (H7.out.mv.heap (H5.out.mv.heap (HM7.out.heap (H6.out.mv.heap (H4.out.mv.heap (HM1.out.heap HST.out.b2 id) (by omega)) (by omega)) id) (by omega)) (by omega)) id
  have b3 := hn26.heap (H7.out.mv.heap (H5.out.mv.heap (HM7.out.heap (H6.out.mv.heap (H4.out.mv.heap (HM1.out.heap HST.out.b3 id) (by omega)) (by omega)) id) (by omega)) (by omega)) id
  have hw6 : Nu w W6 := (((HW2.out.trans HM7.out (fun _ h => h.elim)).trans H5.out.mv (fun x hx => .inr (by omega))).trans H7.out.mv (fun x hx => .inr (by omega))).trans hn26 (fun _ h => h.elim)
  rename_i K1 hK1 K2 hK2
  refine wp_plan (P0 := fun b => W0.heap.size ≤ b) (B2 := w.heap.size + 1) (B3 := w.heap.size + 1 + 1) (plan := [.load 152 4 (col true a).t, .load 153 5 (col true c).t, .bs2 154 152 153 (col true a).t (col true c).t, .call 155 13 154 [(col true a).t, (col true c).t], .load 156 6 (col false a).t, .load 157 7 (col false c).t, .bs2 158 156 157 (col false a).t (col false c).t, .call 159 12 158 [(col false a).t, (col false c).t], .store 2 155 (.mk 13 [] [(col true a).t, (col true c).t]), .store 3 159 (.mk 12 [] [(col false a).t, (col false c).t])])
    (by kernel_rfl) ?plan (fun x hx => by omega) (fun x hx => by omega) (by omega) ?loads rfl rfl (fun p => by unfold Bp; split; exact ⟨_, _, _, b2⟩; exact ⟨_, _, _, b3⟩) ?post
  case plan =>
    refine isPlan_mk (fun i o ho => ?_) (by rfl)
    have hi : i < 10 := (Array.getElem?_eq_some_iff.1 ho).1
    have : i = 0 ∨ i = 1 ∨ i = 2 ∨ i = 3 ∨ i = 4 ∨ i = 5 ∨ i = 6 ∨ i = 7 ∨ i = 8 ∨ i = 9 := by omega
    rcases this with rfl | rfl | rfl | rfl | rfl | rfl | rfl | rfl | rfl | rfl <;> cases ho
    · exact ⟨_, rfl, rfl, rfl, rfl, trivial, rfl⟩
    · exact ⟨_, rfl, rfl, rfl, rfl, trivial, rfl⟩
    · exact ⟨_, rfl, rfl, rfl, rfl, ⟨⟨⟨0, .data⟩, by simp, rfl, _, rfl, rfl⟩, ⟨⟨1, .data⟩, by simp, rfl, _, rfl, rfl⟩⟩, rfl⟩
    · exact ⟨_, rfl, rfl, rfl, rfl, ⟨⟨⟨2, .data⟩, by simp, rfl, _, rfl, rfl⟩, by decide⟩, rfl⟩
    · exact ⟨_, rfl, rfl, rfl, rfl, trivial, rfl⟩
    · exact ⟨_, rfl, rfl, rfl, rfl, trivial, rfl⟩
    · exact ⟨_, rfl, rfl, rfl, rfl, ⟨⟨⟨4, .data⟩, by simp, rfl, _, rfl, rfl⟩, ⟨⟨5, .data⟩, by simp, rfl, _, rfl, rfl⟩⟩, rfl⟩
    · exact ⟨_, rfl, rfl, rfl, rfl, ⟨⟨⟨6, .data⟩, by simp, rfl, _, rfl, rfl⟩, by decide⟩, rfl⟩
    · exact ⟨_, rfl, rfl, rfl, rfl, ⟨⟨3, .data⟩, by simp, rfl, _, rfl, rfl⟩, rfl⟩
    · exact ⟨_, rfl, rfl, rfl, rfl, ⟨⟨7, .data⟩, by simp, rfl, _, rfl, rfl⟩, rfl⟩
  case loads =>
    intro i d s t hi
    have : i < 10 := (List.getElem?_eq_some_iff.1 hi).1
    have : i = 0 ∨ i = 1 ∨ i = 2 ∨ i = 3 ∨ i = 4 ∨ i = 5 ∨ i = 6 ∨ i = 7 ∨ i = 8 ∨ i = 9 := by omega
    rcases this with rfl | rfl | rfl | rfl | rfl | rfl | rfl | rfl | rfl | rfl <;> cases hi
    · exact ⟨_, _, _, _, rfl, b4, by omega, by omega, hA6⟩
    · exact ⟨_, _, _, _, rfl, b5, by omega, by omega, hB6⟩
    · exact ⟨_, _, _, _, rfl, b6, by omega, by omega, hN6⟩
    · exact ⟨_, _, _, _, rfl, b7, by omega, by omega, hY6⟩
  case post =>
    intro a' w' hdf h2 h3 hm hst
    obtain ⟨x0, x1, x2, hb2, ht2⟩ := hst 8 2 155 _ (by decide) rfl
    obtain ⟨y0, y1, y2, hb3, ht3⟩ := hst 9 3 159 _ (by decide) rfl
    change Blk w' (w.heap.size + 1) x0 x1 x2 at hb2
    change Blk w' (w.heap.size + 1 + 1) y0 y1 y2 at hb3
    refine hK2 _ _ ?_
    refine wp_ret ?_
    obtain ⟨k2, s2, o2, l2, c2, rfl, rfl, rfl⟩ := ht2.cell3
    obtain ⟨k3, s3, o3, l3, c3, rfl, rfl, rfl⟩ := ht3.cell3
    obtain ⟨p0, p1, p2, _, _, _⟩ := three hb2
    obtain ⟨q0, q1, q2, _, _, _⟩ := three hb3
    refine bodyPost_ret (v := .tuple #[.agg #[.int .i64 k2, .string s2, .slice o2 l2 c2], .agg #[.int .i64 k3, .string s3, .slice o3 l3 c3]]) (by simp [results, Tryd.results35, go_sem, h2, h3, p0, p1, p2, q0, q1, q2]) (by rw [hdf]) ?_
    rw [← HO.out]
    exact ⟨hw6.trans hm (fun x hx => .inr (by omega)), _, _, _, _, _, _, rfl, ht2.mono (fun x hx _ => by omega), ht3.mono (fun x hx _ => by omega)⟩

end Go.Proofs.YtidihaecgmbhpaaDoor
/-
  Normal forms: weak.
-/
set_option linter.unusedSimpArgs false
namespace Go.Proofs.YtidihaecgmbhpaaDoor
open Go.RowKit Q

set_option maxRecDepth 100000 in
set_option maxHeartbeats 8000000 in
theorem col_weak (a c : F) (hA : ColP a) (hC : ColP c) : ColP (.b .weak a c) := by
  intro w c0 c1 c2 h
  obtain ⟨b, p, cap, d0, d1, d2, i0, i1, i2, rfl, rfl, rfl, h0, h1, h2, ht, j0, j1, j2, htc⟩ := kid_b h
  have HA := hid (fun W (hm : Nu w W) => hA W d0 d1 d2 (ht.nu hm))
  have HC := hid (fun W (hm : Nu w W) => hC W i0 i1 i2 (htc.nu hm))
  have HJ := hid (And.intro j0 (And.intro j1 j2))
  obtain ⟨O, hO⟩ : ∃ O, ColOut (.b .weak a c) w = O := ⟨_, rfl⟩
  rw [hO]
  have HO := hid hO
  have hst := seven7 w (.int .i64 B.weak.kind) (.string (strOfL [])) (.slice (some ⟨b, p, none⟩) 2 cap)
  have HST := hid hst
  clear ht htc hA hC h j0 j1 j2 hO hst
  simp only [B.kind] at HST ⊢
  go_enter Tryd.func35, Tryd.ntmps35
  go_upto_region 2 with fail
  have hst := HST.out
  clear HST
  generalize hW0 : World.alloc _ _ = W0 at hst ⊢
  have HST := hid hst
  have x2 := (three hst.b1).c2
  have k0 := cell_mv hst.nu h0 id
  have k1 := cell_mv hst.nu h1 id
  have k2 := cell_mv hst.nu h2 id
  clear hst hW0
  go_wp2_with fail
  refine Calls.mono (HA.out _ HST.out.nu) ?_
  rintro e w1 ⟨hm1, a0, a1, a2, n0, n1, n2, rfl, hta, htn⟩
  obtain ⟨ka, sa, oa, la, ca, rfl, rfl, rfl⟩ := hta.cell3
  obtain ⟨kn, sn, on, ln, cn, rfl, rfl, rfl⟩ := htn.cell3
  have HM1 := hid hm1
  have HTA := hid hta
  have HTN := hid htn
  obtain ⟨y0, y1, y2, f0, f1, f2⟩ := three (hm1.heap HST.out.b4 id)
  obtain ⟨z0, z1, z2, g0, g1, g2⟩ := three (hm1.heap HST.out.b6 id)
  replace x2 := cell_mv hm1 x2 id
  clear hm1 hta htn k0 k1 k2
  go_upto_region 4 with fail
  generalize hW2 : World.setCell (World.setCell (World.setCell (World.setCell (World.setCell (World.setCell _ _ _) _ _) _ _) _ _) _ _) _ _ = W2
  have s4 := set3 (HM1.out.heap HST.out.b4 id) (.int .i64 ka) (.string sa) (.slice oa la ca)
  have s6 := set3 (s4.mv.heap (HM1.out.heap HST.out.b6 id) (by omega)) (.int .i64 kn) (.string sn) (.slice on ln cn)
  rw [hW2] at s6
  have H4 := hid s4
  have H6 := hid s6
  have hx2 : W2.cell? ⟨w.heap.size, 2, none⟩ = some (.slice (some ⟨b, p, none⟩) 2 cap) := cell_mv s6.mv (cell_mv s4.mv x2 (by omega)) (by omega)
  have hx0 : W2.cell? ⟨w.heap.size, 0, none⟩ = some (.int .i64 14) := cell_mv s6.mv (cell_mv s4.mv (cell_mv HM1.out (three HST.out.b1).c0 id) (by omega)) (by omega)
  clear s4 s6 hW2 x2 y0 y1 y2 f0 f1 f2 z0 z1 z2 g0 g1 g2
  have hw2 : Nu w W2 := ((HST.out.nu.trans HM1.out (fun _ h => h.elim)).trans H4.out.mv (fun x hx => .inr (by omega))).trans H6.out.mv (fun x hx => .inr (by omega))
  have HW2 := hid hw2
  have k0 := cell_mv hw2 HJ.out.1 id
  have k1 := cell_mv hw2 HJ.out.2.1 id
  have k2 := cell_mv hw2 HJ.out.2.2 id
  clear hw2 h0 h1 h2
  go_wp2_with fail
  refine Calls.mono (HC.out _ HW2.out) ?_
  rintro e w7 ⟨hm7, a0, a1, a2, n0, n1, n2, rfl, htb, hty⟩
  obtain ⟨kb, sb, ob, lb, cb, rfl, rfl, rfl⟩ := htb.cell3
  obtain ⟨ky, sy, oy, ly, cy, rfl, rfl, rfl⟩ := hty.cell3
  have HM7 := hid hm7
  have HTB := hid htb
  have HTY := hid hty
  have e5 := hm7.heap (H6.out.mv.heap (H4.out.mv.heap (HM1.out.heap HST.out.b5 id) (by omega)) (by omega)) id
  have e7 := hm7.heap (H6.out.mv.heap (H4.out.mv.heap (HM1.out.heap HST.out.b7 id) (by omega)) (by omega)) id
  have E5 := hid e5
  have E7 := hid e7
  obtain ⟨y0, y1, y2, f0, f1, f2⟩ := three e5
  obtain ⟨z0, z1, z2, g0, g1, g2⟩ := three e7
  replace hx0 := cell_mv hm7 hx0 id
  clear hm7 htb hty k0 k1 k2 hx2 e5 e7
  go_upto_region 6 with fail
  generalize hW8 : World.setCell (World.setCell (World.setCell (World.setCell (World.setCell (World.setCell _ _ _) _ _) _ _) _ _) _ _) _ _ = W8
  have s5 := set3 E5.out (.int .i64 kb) (.string sb) (.slice ob lb cb)
  have s7 := set3 (s5.mv.heap E7.out (by omega)) (.int .i64 ky) (.string sy) (.slice oy ly cy)
  rw [hW8] at s7
  have H5 := hid s5
  have H7 := hid s7
  replace hx0 := cell_mv s7.mv (cell_mv s5.mv hx0 (by omega)) (by omega)
  clear s5 s7 hW8 y0 y1 y2 f0 f1 f2 z0 z1 z2 g0 g1 g2
  go_wp2_with fail
  refine Calls.mono (part_any _ _ _ _ _) ?_
  rintro e w3 ⟨rfl, hm3⟩
  have HM3 := hid hm3
  replace hx0 := cell_mv hm3 hx0 id
  have hlt3 : w.heap.size < w3.heap.size := World.block_lt_of_cell? w3 _ hx0
  clear hm3
  go_wp2_with fail
  refine Calls.mono (part_any _ _ _ _ _) ?_
  rintro e w5 ⟨rfl, hm5⟩
  have HM5 := hid hm5
  replace hx0 := cell_mv (mv0 (Mv.alloc (fun _ => False) w3 _) hm5) hx0 id
  have hlt5 : w.heap.size < w5.heap.size := World.block_lt_of_cell? w5 _ hx0
  clear hm5
  go_upto_region 36 with fail
  generalize hW6 : World.alloc _ _ = W6
  have hn26 : Nu W8 W6 := by rw [← hW6]; exact mv0 (mv0 (mv0 HM3.out (Mv.alloc _ _ _)) HM5.out) (Mv.alloc _ _ _)
  have hs0 : w.heap.size + 1 + 1 + 1 + 1 + 1 + 1 < W0.heap.size := lt_of_block HST.out.b7
  have hs1 := HM1.out.size
  have hs4 := H4.out.sz
  have hs6 := H6.out.sz
  have hs7 := HM7.out.size
  have hs5 := H5.out.sz
  have hs8 := H7.out.sz
  have hs26 := hn26.size
  have hA6 : TIn W6 (fun b => W0.heap.size ≤ b) (.int .i64 ka) (.string sa) (.slice oa la ca) (col true a).t := (((((HTA.out.mv H4.out.mv (fun x hx _ e => by omega)).mv H6.out.mv (fun x hx _ e => by omega)).nu HM7.out).mv H5.out.mv (fun x hx _ e => by omega)).mv H7.out.mv (fun x hx _ e => by omega)).nu hn26
  have b4 := hn26.heap (H7.out.mv.heap (H5.out.mv.heap (HM7.out.heap (H6.out.mv.heap H4.out.blk (by omega)) id) (by omega)) (by omega)) id
  have hN6 : TIn W6 (fun b => W0.heap.size ≤ b) (.int .i64 kn) (.string sn) (.slice on ln cn) (col false a).t := (((((HTN.out.mv H4.out.mv (fun x hx _ e => by omega)).mv H6.out.mv (fun x hx _ e => by omega)).nu HM7.out).mv H5.out.mv (fun x hx _ e => by omega)).mv H7.out.mv (fun x hx _ e => by omega)).nu hn26
  have b6 := hn26.heap (H7.out.mv.heap (H5.out.mv.heap (HM7.out.heap H6.out.blk id) (by omega)) (by omega)) id
  have hB6 : TIn W6 (fun b => W0.heap.size ≤ b) (.int .i64 kb) (.string sb) (.slice ob lb cb) (col true c).t := (((HTB.out.mv H5.out.mv (fun x hx _ e => by omega)).mv H7.out.mv (fun x hx _ e => by omega)).nu hn26).mono (fun x hx _ => by omega)
  have b5 := hn26.heap (H7.out.mv.heap H5.out.blk (by omega)) id
  have hY6 : TIn W6 (fun b => W0.heap.size ≤ b) (.int .i64 ky) (.string sy) (.slice oy ly cy) (col false c).t := (((HTY.out.mv H5.out.mv (fun x hx _ e => by omega)).mv H7.out.mv (fun x hx _ e => by omega)).nu hn26).mono (fun x hx _ => by omega)
  have b7 := hn26.heap H7.out.blk id
  have b2 := hn26.heap (H7.out.mv.heap (H5.out.mv.heap (HM7.out.heap (H6.out.mv.heap (H4.out.mv.heap (HM1.out.heap HST.out.b2 id) (by omega)) (by omega)) id) (by omega)) (by omega)) id
  have b3 := hn26.heap (H7.out.mv.heap (H5.out.mv.heap (HM7.out.heap (H6.out.mv.heap (H4.out.mv.heap (HM1.out.heap HST.out.b3 id) (by omega)) (by omega)) id) (by omega)) (by omega)) id
  have hw6 : Nu w W6 := (((HW2.out.trans HM7.out (fun _ h => h.elim)).trans H5.out.mv (fun x hx => .inr (by omega))).trans H7.out.mv (fun x hx => .inr (by omega))).trans hn26 (fun _ h => h.elim)
  rename_i K2 hK2
  refine wp_plan (P0 := fun b => W0.heap.size ≤ b) (B2 := w.heap.size + 1) (B3 := w.heap.size + 1 + 1) (plan := [.load 160 5 (col true c).t, .load 161 4 (col true a).t, .load 162 5 (col true c).t, .bs2 163 161 162 (col true a).t (col true c).t, .call 164 9 163 [(col true a).t, (col true c).t], .bs2 165 160 164 (col true c).t (.mk 9 [] [(col true a).t, (col true c).t]), .call 166 13 165 [(col true c).t, (.mk 9 [] [(col true a).t, (col true c).t])], .load 167 7 (col false c).t, .load 168 6 (col false a).t, .load 169 7 (col false c).t, .bs2 170 168 169 (col false a).t (col false c).t, .call 171 8 170 [(col false a).t, (col false c).t], .bs2 172 167 171 (col false c).t (.mk 8 [] [(col false a).t, (col false c).t]), .call 173 12 172 [(col false c).t, (.mk 8 [] [(col false a).t, (col false c).t])], .store 2 166 (.mk 13 [] [(col true c).t, (.mk 9 [] [(col true a).t, (col true c).t])]), .store 3 173 (.mk 12 [] [(col false c).t, (.mk 8 [] [(col false a).t, (col false c).t])])])
    (by kernel_rfl) ?plan (fun x hx => by omega) (fun x hx => by omega) (by omega) ?loads rfl rfl (fun p => by unfold Bp; split; exact ⟨_, _, _, b2⟩; exact ⟨_, _, _, b3⟩) ?post
  case plan =>
    refine isPlan_mk (fun i o ho => ?_) (by rfl)
    have hi : i < 16 := (Array.getElem?_eq_some_iff.1 ho).1
    have : i = 0 ∨ i = 1 ∨ i = 2 ∨ i = 3 ∨ i = 4 ∨ i = 5 ∨ i = 6 ∨ i = 7 ∨ i = 8 ∨ i = 9 ∨ i = 10 ∨ i = 11 ∨ i = 12 ∨ i = 13 ∨ i = 14 ∨ i = 15 := by omega
    rcases this with rfl | rfl | rfl | rfl | rfl | rfl | rfl | rfl | rfl | rfl | rfl | rfl | rfl | rfl | rfl | rfl <;> cases ho
    · exact ⟨_, rfl, rfl, rfl, rfl, trivial, rfl⟩
    · exact ⟨_, rfl, rfl, rfl, rfl, trivial, rfl⟩
    · exact ⟨_, rfl, rfl, rfl, rfl, trivial, rfl⟩
    · exact ⟨_, rfl, rfl, rfl, rfl, ⟨⟨⟨1, .data⟩, by simp, rfl, _, rfl, rfl⟩, ⟨⟨2, .data⟩, by simp, rfl, _, rfl, rfl⟩⟩, rfl⟩
    · exact ⟨_, rfl, rfl, rfl, rfl, ⟨⟨⟨3, .data⟩, by simp, rfl, _, rfl, rfl⟩, by decide⟩, rfl⟩
    · exact ⟨_, rfl, rfl, rfl, rfl, ⟨⟨⟨0, .data⟩, by simp, rfl, _, rfl, rfl⟩, ⟨⟨4, .data⟩, by simp, rfl, _, rfl, rfl⟩⟩, rfl⟩
    · exact ⟨_, rfl, rfl, rfl, rfl, ⟨⟨⟨5, .data⟩, by simp, rfl, _, rfl, rfl⟩, by decide⟩, rfl⟩
    · exact ⟨_, rfl, rfl, rfl, rfl, trivial, rfl⟩
    · exact ⟨_, rfl, rfl, rfl, rfl, trivial, rfl⟩
    · exact ⟨_, rfl, rfl, rfl, rfl, trivial, rfl⟩
    · exact ⟨_, rfl, rfl, rfl, rfl, ⟨⟨⟨8, .data⟩, by simp, rfl, _, rfl, rfl⟩, ⟨⟨9, .data⟩, by simp, rfl, _, rfl, rfl⟩⟩, rfl⟩
    · exact ⟨_, rfl, rfl, rfl, rfl, ⟨⟨⟨10, .data⟩, by simp, rfl, _, rfl, rfl⟩, by decide⟩, rfl⟩
    · exact ⟨_, rfl, rfl, rfl, rfl, ⟨⟨⟨7, .data⟩, by simp, rfl, _, rfl, rfl⟩, ⟨⟨11, .data⟩, by simp, rfl, _, rfl, rfl⟩⟩, rfl⟩
    · exact ⟨_, rfl, rfl, rfl, rfl, ⟨⟨⟨12, .data⟩, by simp, rfl, _, rfl, rfl⟩, by decide⟩, rfl⟩
    · exact ⟨_, rfl, rfl, rfl, rfl, ⟨⟨6, .data⟩, by simp, rfl, _, rfl, rfl⟩, rfl⟩
    · exact ⟨_, rfl, rfl, rfl, rfl, ⟨⟨13, .data⟩, by simp, rfl, _, rfl, rfl⟩, rfl⟩
  case loads =>
    intro i d s t hi
    have : i < 16 := (List.getElem?_eq_some_iff.1 hi).1
    have : i = 0 ∨ i = 1 ∨ i = 2 ∨ i = 3 ∨ i = 4 ∨ i = 5 ∨ i = 6 ∨ i = 7 ∨ i = 8 ∨ i = 9 ∨ i = 10 ∨ i = 11 ∨ i = 12 ∨ i = 13 ∨ i = 14 ∨ i = 15 := by omega
    rcases this with rfl | rfl | rfl | rfl | rfl | rfl | rfl | rfl | rfl | rfl | rfl | rfl | rfl | rfl | rfl | rfl <;> cases hi
    · exact ⟨_, _, _, _, rfl, b5, by omega, by omega, hB6⟩
    · exact ⟨_, _, _, _, rfl, b4, by omega, by omega, hA6⟩
    · exact ⟨_, _, _, _, rfl, b5, by omega, by omega, hB6⟩
    · exact ⟨_, _, _, _, rfl, b7, by omega, by omega, hY6⟩
    · exact ⟨_, _, _, _, rfl, b6, by omega, by omega, hN6⟩
    · exact ⟨_, _, _, _, rfl, b7, by omega, by omega, hY6⟩
  case post =>
    intro a' w' hdf h2 h3 hm hst
    obtain ⟨x0, x1, x2, hb2, ht2⟩ := hst 14 2 166 _ (by decide) rfl
    obtain ⟨y0, y1, y2, hb3, ht3⟩ := hst 15 3 173 _ (by decide) rfl
    change Blk w' (w.heap.size + 1) x0 x1 x2 at hb2
    change Blk w' (w.heap.size + 1 + 1) y0 y1 y2 at hb3
    refine hK2 _ _ ?_
    refine wp_ret ?_
    obtain ⟨k2, s2, o2, l2, c2, rfl, rfl, rfl⟩ := ht2.cell3
    obtain ⟨k3, s3, o3, l3, c3, rfl, rfl, rfl⟩ := ht3.cell3
    obtain ⟨p0, p1, p2, _, _, _⟩ := three hb2
    obtain ⟨q0, q1, q2, _, _, _⟩ := three hb3
    refine bodyPost_ret (v := .tuple #[.agg #[.int .i64 k2, .string s2, .slice o2 l2 c2], .agg #[.int .i64 k3, .string s3, .slice o3 l3 c3]]) (by simp [results, Tryd.results35, go_sem, h2, h3, p0, p1, p2, q0, q1, q2]) (by rw [hdf]) ?_
    rw [← HO.out]
    exact ⟨hw6.trans hm (fun x hx => .inr (by omega)), _, _, _, _, _, _, rfl, ht2.mono (fun x hx _ => by omega), ht3.mono (fun x hx _ => by omega)⟩

end Go.Proofs.YtidihaecgmbhpaaDoor
/-
  Normal forms: whole.
-/
namespace Go.Proofs.YtidihaecgmbhpaaDoor
open Go.RowKit Q

theorem col_any (f : F) : ColP f := by
  induction f with
  | tt => exact col_tt
  | ff => exact col_ff
  | pr s => exact col_pr s
  | u o a ih => cases o; exact col_not a ih; exact col_next a ih; exact col_always a ih; exact col_fin a ih
  | b o a c iha ihc => cases o; exact col_and a c iha ihc; exact col_or a c iha ihc; exact col_imp a c iha ihc; exact col_iff a c iha ihc; exact col_til a c iha ihc; exact col_rel a c iha ihc; exact col_weak a c iha ihc

end Go.Proofs.YtidihaecgmbhpaaDoor
/-
  Normal forms: what the reference's Normal gives.
-/
set_option linter.unusedSimpArgs false
namespace Go.Proofs.YtidihaecgmbhpaaDoor
open Go.RowKit Q

/-- Two blocks. -/
structure Two2 (w W : World) (c0 c1 c2 : Value) : Prop where
  nu : Nu w W
  b1 : Blk W w.heap.size c0 c1 c2
  b2 : Blk W (w.heap.size + 1) (.int .i64 0) (.string ⟨#[]⟩) (.slice none 0 0)

theorem two2 (w : World) (c0 c1 c2 : Value) : Two2 w ((w.alloc (.cells #[c0, c1, c2] 24)).alloc Z3) c0 c1 c2 := by
  obtain ⟨h1, s1⟩ := alloc_blk w (.cells #[c0, c1, c2] 24) _ rfl
  obtain ⟨h2, s2⟩ := alloc_blk _ Z3 _ s1
  exact ⟨mv0 (Mv.alloc _ w _) (Mv.alloc _ _ _), (Mv.alloc (fun _ => False) _ _).heap h1 id, h2⟩

/-- A formula's normal form, or why there is none. -/
def nrm (t : T) (e : Nat) (u : T) : Prop := (chk t ≠ 0 ∧ e = chk t ∧ u = .mk 0 [] []) ∨ (chk t = 0 ∧ ∃ f : F, f.ok = true ∧ f.t = t ∧ ((20000 < cnt true f ∧ e = 2 ∧ u = .mk 0 [] []) ∨ (cnt true f ≤ 20000 ∧ e = 0 ∧ u = (col true f).t)))

/-- What Normal hands back. -/
def NormOut (t : T) (w : World) (e : Ending) (w' : World) : Prop := Nu w w' ∧ ∃ d0 d1 d2 n u, e = .returned (.tuple #[.agg #[d0, d1, d2], .int .i64 (n : Nat)]) ∧ nrm t n u ∧ TIn w' (fun b => w.heap.size ≤ b) d0 d1 d2 u

set_option maxRecDepth 100000 in
set_option maxHeartbeats 8000000 in
theorem Normal_any (t : T) (hs : t.size ≤ 1000000000) (w : World) (c0 c1 c2 : Value) (h : TAt w c0 c1 c2 t) : Calls Tryd.prog 16 #[.agg #[c0, c1, c2]] w (NormOut t w) := by
  have HT := hid (fun W (hm : Nu w W) => h.nu hm)
  have HC := hid (fun W (hm : Nu w W) => Check_any t hs W c0 c1 c2 (h.nu hm))
  obtain ⟨k, sn, ao, l, c, rfl, rfl, rfl⟩ := h.cell3
  have hst := two2 w (.int .i64 k) (.string sn) (.slice ao l c)
  have HST := hid hst
  obtain ⟨O, hO⟩ : ∃ O, NormOut t w = O := ⟨_, rfl⟩
  rw [hO]
  have HO := hid hO
  obtain ⟨n, hn⟩ : ∃ n, chk t = n := ⟨_, rfl⟩
  have HN := hid hn
  have hnl := chk_lt t
  rw [hn] at HC hnl
  clear h hst hO hn
  go_enter Tryd.func16, Tryd.ntmps16
  go_upto_region 1 with fail
  have hst := HST.out
  clear HST
  generalize hW0 : World.alloc _ _ = W0 at hst ⊢
  have HST := hid hst
  obtain ⟨x0, x1, x2, _, _, _⟩ := three hst.b1
  clear hst hW0
  go_wp2_with fail
  refine Calls.mono (HC.out _ HST.out.nu) ?_
  rintro e w1 ⟨rfl, hm1⟩
  have HM1 := hid (mv0 HST.out.nu hm1)
  have E1 := hid (hm1.heap HST.out.b1 id)
  have E2 := hid (hm1.heap HST.out.b2 id)
  clear hm1 x0 x1 x2
  obtain ⟨x0, x1, x2, _, _, _⟩ := three E1.out
  by_cases hz : n = 0
  · subst hz
    obtain ⟨f, hok, hft⟩ : ∃ f : F, f.ok = true ∧ f.t = t := T.may_f t (by have := HN.out; unfold chk at this; split at this; omega; rename_i h; simpa using h)
    subst hft
    have HOK := hid hok
    have HK := hid (count_any f _ _ _ _ (HT.out _ HM1.out))
    have HCO := hid (fun W (hm : Nu w W) => col_any f W _ _ _ (HT.out _ hm))
    obtain ⟨N, hN⟩ : ∃ N, capN (cnt true f) = N := ⟨_, rfl⟩
    obtain ⟨M, hM⟩ : ∃ M, capN (cnt false f) = M := ⟨_, rfl⟩
    rw [hN, hM] at HK
    have HNN := hid hN
    clear hN hM hok
    go_wp2_with fail
    refine Calls.mono HK.out ?_
    rintro e w2 ⟨rfl, hm2⟩
    have HM2 := hid (mv0 HM1.out hm2)
    have F2 := hid (hm2.heap E2.out id)
    clear x0 x1 x2
    obtain ⟨x0, x1, x2, _, _, _⟩ := three (hm2.heap E1.out id)
    obtain ⟨y0, y1, y2, f0, f1, f2⟩ := three F2.out
    clear hm2
    by_cases hbig : 20000 < N
    · have hbig' : (20000 : Int) < (N : Int) := by omega
      go_wp2_with fail
      generalize hW : World.setCell (World.setCell (World.setCell _ _ _) _ _) _ _ = W
      have s2 := set3 F2.out (.int .i64 0) (.string ⟨#[]⟩) (.slice none 0 0)
      rw [hW] at s2
      obtain ⟨p0, p1, p2, _, _, _⟩ := three s2.blk
      refine bodyPost_ret (v := .tuple #[.agg #[.int .i64 0, .string ⟨#[]⟩, .slice none 0 0], .int .i64 2]) (by simp [results, Tryd.results16, go_sem, p0, p1, p2]) rfl ?_
      rw [← HO.out]
      exact ⟨HM2.out.trans s2.mv (fun x hx => .inr (by omega)), _, _, _, 2, _, rfl, .inr ⟨HN.out, f, HOK.out, rfl, .inl ⟨by have := HNN.out; unfold capN at this; omega, rfl, rfl⟩⟩, zero_t _ _⟩
    · have hbig' : ¬ (20000 : Int) < (N : Int) := by omega
      go_wp2_with fail
      refine Calls.mono (HCO.out _ HM2.out) ?_
      rintro e w3 ⟨hm3, a0, a1, a2, n0, n1, n2, rfl, hta, htn⟩
      obtain ⟨ka, sa, oa, la, ca, rfl, rfl, rfl⟩ := hta.cell3
      obtain ⟨kn, sn', on, ln, cn, rfl, rfl, rfl⟩ := htn.cell3
      have HM3 := hid hm3
      have HTA := hid hta
      clear f0 f1 f2 y0 y1 y2 hm3 hta htn x0 x1 x2
      go_upto_region 8 with fail
      have hA2 : Nu w3 ((w3.alloc (.cells #[.int .i64 ka, .string sa, .slice oa la ca] 24)).alloc (.cells #[.int .i64 kn, .string sn', .slice on ln cn] 24)) := mv0 (Mv.alloc _ _ _) (Mv.alloc _ _ _)
      have HTB := hid (HTA.out.nu hA2)
      have hb7 := (Mv.alloc (fun _ => False) _ (.cells #[.int .i64 kn, .string sn', .slice on ln cn] 24)).heap (heap_alloc_new w3 (.cells #[.int .i64 ka, .string sa, .slice oa la ca] 24)) id
      have G2 := hid (hA2.heap (HM3.out.heap F2.out id) id)
      have HM4 := hid (mv0 (mv0 HM2.out HM3.out) hA2)
      generalize World.alloc _ _ = W4 at hA2 HTB hb7 G2 HM4 ⊢
      clear hA2 HTA
      have hlt2 : w.heap.size + 1 < w2.heap.size := lt_of_block F2.out
      obtain ⟨x0, x1, x2, _, _, _⟩ := three hb7
      clear hb7
      obtain ⟨y0, y1, y2, f0, f1, f2⟩ := three G2.out
      go_wp2_with fail
      generalize hW : World.setCell (World.setCell (World.setCell _ _ _) _ _) _ _ = W
      have s2 := set3 G2.out (.int .i64 ka) (.string sa) (.slice oa la ca)
      rw [hW] at s2
      obtain ⟨p0, p1, p2, _, _, _⟩ := three s2.blk
      refine bodyPost_ret (v := .tuple #[.agg #[.int .i64 ka, .string sa, .slice oa la ca], .int .i64 0]) (by simp [results, Tryd.results16, go_sem, p0, p1, p2]) rfl ?_
      rw [← HO.out]
      exact ⟨HM4.out.trans s2.mv (fun x hx => .inr (by omega)), _, _, _, 0, _, rfl, .inr ⟨HN.out, f, HOK.out, rfl, .inr ⟨by have := HNN.out; unfold capN at this; omega, rfl, rfl⟩⟩, (HTB.out.mv s2.mv (fun x hx _ e => by omega)).mono (fun x hx _ => by omega)⟩
  · have hz' : (n : Int) ≠ 0 := by omega
    obtain ⟨y0, y1, y2, f0, f1, f2⟩ := three E2.out
    go_wp2_with fail
    generalize hW : World.setCell (World.setCell (World.setCell _ _ _) _ _) _ _ = W
    have s2 := set3 E2.out (.int .i64 0) (.string ⟨#[]⟩) (.slice none 0 0)
    rw [hW] at s2
    obtain ⟨p0, p1, p2, _, _, _⟩ := three s2.blk
    refine bodyPost_ret (v := .tuple #[.agg #[.int .i64 0, .string ⟨#[]⟩, .slice none 0 0], .int .i64 (n : Nat)]) (by simp [results, Tryd.results16, go_sem, p0, p1, p2]) rfl ?_
    rw [← HO.out]
    exact ⟨HM1.out.trans s2.mv (fun x hx => .inr (by omega)), _, _, _, n, _, rfl, .inl ⟨by rw [HN.out]; exact hz, HN.out.symm, rfl⟩, zero_t _ _⟩

end Go.Proofs.YtidihaecgmbhpaaDoor
/-
  The reference's formula at the levels below 5.
-/
set_option linter.unusedSimpArgs false
namespace Go.Proofs.YtidihaecgmbhpaaDoor
open Go.RowKit Q

set_option maxHeartbeats 8000000 in
theorem formulaN {pb : Nat} {ao : Option Addr} {cap : Nat} {L : List (Wd × Nat)} {B f : Nat} (hE : PEnv pb ao B) (ih : FmP pb ao cap L B f) (hL : L.length ≤ 100000) (n : Nat) (hn : n < 5) (i : Nat) (hi : i ≤ L.length) (x : R) (hx : fm (f + 1) n (from' L i) = some x) (w : World) (hB : B ≤ w.heap.size) (hP : PIs w pb ao cap L i (-1)) :
    Calls Tryd.prog 21 #[.pointer (some ⟨pb, 0, none⟩), .int .i64 (n : Int)] w fun e w' => Mv (· = pb) w w' ∧ Out w w' pb ao cap L (f + 1) e x := by
  have hxs := fm_spec hn hx
  obtain ⟨W0, hW0⟩ : ∃ W0, w.alloc (.cells #[.int .i64 0, .string ⟨#[]⟩, .slice none 0 0] 24) = W0 := ⟨_, rfl⟩
  have hn0 : Nu w W0 := by rw [← hW0]; exact Mv.alloc _ _ _
  have hs0 : W0.heap.size = w.heap.size + 1 := by rw [← hW0]; simp
  have h4 : W0.heap[w.heap.size]? = some (.cells #[.int .i64 0, .string ⟨#[]⟩, .slice none 0 0] 24 (0, 0)) := by rw [← hW0]; exact heap_alloc_new w _
  obtain ⟨y, hy⟩ : ∃ y, fm f (n + 1) (from' L i) = some y := by
    rcases hxs with ⟨q, h1, _⟩ | ⟨t, r, h1, _⟩
    · exact ⟨_, h1⟩
    · exact ⟨_, h1⟩
  have hcall := ih (n + 1) (by omega) i hi y hy W0 (by omega) (hP.nu hn0)
  have HC : Hid (Calls Tryd.prog 21 #[.pointer (some ⟨pb, 0, none⟩), .int .i64 ((n : Int) + 1)] W0 fun e w' => Mv (· = pb) W0 w' ∧ Out W0 w' pb ao cap L f e y) := by
    have : ((n + 1 : Nat) : Int) = (n : Int) + 1 := by omega
    rw [this] at hcall; exact hcall
  have hpl := hE.pl
  -- behind the call: the state between two rounds
  have HST : Hid (∀ e w1, Mv (· = pb) W0 w1 → Out W0 w1 pb ao cap L f e y → ∃ d0 d1 d2, e = .returned (.agg #[d0, d1, d2]) ∧ Cell3 d0 d1 d2 ∧ LSt w (w1.alloc (.cells #[d0, d1, d2] 24)) pb ao cap L f w1.heap.size n x f d0 d1 d2) := by
    intro e w1 hm ho
    have hs1 := hm.size
    have hst : ∀ d0 d1 d2, FSt w (w1.alloc (.cells #[d0, d1, d2] 24)) pb w1.heap.size d0 d1 d2 := fun d0 d1 d2 =>
      ⟨((hn0.mono (fun _ h => h.elim)).trans hm (fun _ h => .inl h)).trans (Mv.alloc (fun _ => False) _ _) (fun _ h => h.elim), (Mv.alloc (fun _ => False) w1 _).heap (hm.heap h4 (by omega)) id, heap_alloc_new w1 _, by omega⟩
    rcases hxs with ⟨q, h1, rfl⟩ | ⟨t, r, h1, h2⟩
    · rw [hy] at h1
      cases h1
      obtain ⟨d0, d1, d2, j, g1, g2, g3, g4⟩ := ho
      exact ⟨d0, d1, d2, g1, g2, g2, hst d0 d1 d2, .inr ⟨q, j, rfl, g3, g4.nu (Mv.alloc _ _ _)⟩⟩
    · rw [hy] at h1
      cases h1
      obtain ⟨d0, d1, d2, g1, g2, g3⟩ := ho
      refine ⟨d0, d1, d2, g1, g2.cell3, g2.cell3, hst d0 d1 d2, .inl ⟨t, _, Nat.sub_le _ _, (g2.mono (fun z hz hz2 => ?_)).nu (Mv.alloc _ _ _), g3.nu (Mv.alloc _ _ _), ?_, Nat.le_refl _⟩⟩
      · exact ⟨by omega, by omega⟩
      · rw [← from_suffix ((suffix f).1 _ _ _ _ hy)]; exact h2
  have HB := hid hB
  have HPL := hid hpl
  clear hxs hcall hx hP hn0 hs0 h4 hy hi hpl hB
  go_enter Tryd.func21, Tryd.ntmps21
  have hne5 : ((n : Int) == 5) = false := by simp; omega
  go_upto_region 3 with fail
  clear hW0
  go_wp2_with fail
  refine Calls.mono HC.out ?_
  rintro e w1 ⟨hm1, hout⟩
  obtain ⟨d0, d1, d2, rfl, ⟨k, s, a, l, c, rfl, rfl, rfl⟩, hL0⟩ := HST.out e w1 hm1 hout
  have HL0 := hid hL0
  clear hm1 hout hL0 HST HC
  go_wp2_with fail
  go_loopg [6] f (fun g _ wr => ∃ d0 d1 d2, Hid (LSt w wr pb ao cap L f w1.heap.size n x g d0 d1 d2))
  case atStart => exact ⟨_, _, _, HL0⟩
  case round =>
    obtain ⟨d0, d1, d2, HS⟩ := hrel
    obtain ⟨⟨k', s', a', l', c', rfl, rfl, rfl⟩, hst, hor⟩ := HS.out
    have HST := hid hst
    rcases hor with ⟨t, i, hi, ht, hps, hsp, hg⟩ | ⟨q, j, rfl, hj, hps⟩
    case inr =>
      have p2 := hps.c2
      obtain ⟨b, hb⟩ : ∃ b : Nat, L.length - q = b := ⟨_, rfl⟩
      rw [hb] at p2
      have hb0 : ¬ ((b : Int) < 0) := by omega
      obtain ⟨x0, x1, x2, _, _, _⟩ := three hst.r5
      obtain ⟨y0, y1, y2, g0, g1, g2⟩ := three hst.r4
      have HPS := hid hps
      clear hst hps HS HL0 hb
      go_wp2_with fail
      refine bodyPost_ret (v := .agg #[.int .i64 k', .string s', .slice a' l' c']) (by simp [results, Tryd.results21, go_sem, y0, y1, y2, g0, g1, g2]) rfl ?_
      exact ret_err hE HB.out HST.out ⟨_, _, _, _, _, rfl, rfl, rfl⟩ hj HPS.out (set3 HST.out.r4 _ _ _)
    have HW := hid (word_any hps (by omega))
    have HOp := hid (fun W => operator_any (wordAt L i) W)
    have p2 := hps.c2
    have HPS := hid hps
    have HT := hid ht
    cases ho : Q.opAt n (from' L i) with
    | none =>
      have hxe := spec_none hsp ho
      subst hxe
      have hne := op_none ho
      obtain ⟨q, hq⟩ : ∃ q, opKL (wordAt L i) = q := ⟨_, rfl⟩
      rw [hq] at HOp hne
      obtain ⟨q1, q2⟩ := q
      simp only at hne HOp
      have hne' : (q2 != (n : Int)) = true := by simpa using hne
      clear hst hps HS HL0 ht hsp hg hq hne ho
      go_wp2_with fail
      refine Calls.mono HW.out ?_
      rintro e wa ⟨rfl, nd, rfl⟩
      go_wp2_with fail
      refine Calls.mono (HOp.out _) ?_
      rintro e w2 ⟨rfl, hm2⟩
      have hn2 : Nu wr w2 := mv0 (Mv.drewN _ _ _) hm2
      have HN2 := hid hn2
      obtain ⟨x0, x1, x2, _, _, _⟩ := three (HST.out.nu hn2).r5
      obtain ⟨y0, y1, y2, g0, g1, g2⟩ := three (HST.out.nu hn2).r4
      clear hm2 hn2 p2
      go_wp2_with fail
      refine bodyPost_ret (v := .agg #[.int .i64 k', .string s', .slice a' l' c']) (by simp [results, Tryd.results21, go_sem, y0, y1, y2, g0, g1, g2]) rfl ?_
      exact ret_ok hE HB.out (HST.out.nu HN2.out) hi (HT.out.nu HN2.out) (HPS.out.nu HN2.out) (set3 (HST.out.nu HN2.out).r4 _ _ _)
    | some p =>
      obtain ⟨o, r'⟩ := p
      obtain ⟨hil, hkl, rfl⟩ := op_some ho
      rw [hkl] at HOp
      simp only at HOp
      by_cases hl : n = 2 ∨ n = 3
      · obtain ⟨g', rfl, hcase⟩ := spec_left hl hsp ho hg
        obtain ⟨y, hy⟩ : ∃ y, fm f (n + 1) (from' L (i + 1)) = some y := by
          rcases hcase with ⟨q, h1, _⟩ | ⟨u, r, h1, _⟩
          · exact ⟨_, h1⟩
          · exact ⟨_, h1⟩
        have HC2 := hid (fun W hB hP => ih (n + 1) (by omega) (i + 1) hil y hy W hB hP)
        have HCA := hid hcase
        have HY := hid hy
        have HIL := hid hil
        have HG := hid hg
        have hbb : (((n : Int) == 2) = true ∧ ((n : Int) == 3) = false) ∨ (((n : Int) == 2) = false ∧ ((n : Int) == 3) = true) := by rcases hl with rfl | rfl <;> simp
        clear hst hps HS HL0 ht hsp hg hkl ho hcase hy hl
        rcases hbb with ⟨hb2, hb3⟩ | ⟨hb2, hb3⟩
        all_goals
          go_wp2_with fail
          refine Calls.mono HW.out ?_
          rintro e wa ⟨rfl, nd, rfl⟩
          go_wp2_with fail
          refine Calls.mono (HOp.out _) ?_
          rintro e w2 ⟨rfl, hm2⟩
          have hn2 : Nu wr w2 := mv0 (Mv.drewN _ _ _) hm2
          have HN2 := hid hn2
          have p1 := (HPS.out.nu hn2).c1
          have g1 := (HPS.out.nu hn2).fr 1
          clear hm2 hn2 p2
          go_upto_region 11 with fail
          clear p1 g1
          generalize hW3 : World.alloc _ _ = W3
          have hs3 : W3.heap.size = w2.heap.size + 1 := by rw [← hW3]; simp [World.setCell]
          have hP3 : PIs W3 pb ao cap L (i + 1) (-1) := by rw [← hW3]; exact (HPS.out.nu HN2.out).at1.nu (Mv.alloc _ _ _)
          have hb9 : W3.heap[w2.heap.size]? = some (.cells #[.int .i64 0, .string ⟨#[]⟩, .slice none 0 0] 24 (0, 0)) := by
            rw [← hW3]; have := heap_alloc_new (w2.setCell ⟨pb, 1, none⟩ (.int .i64 ((i : Int) + 1))) (.cells #[.int .i64 0, .string ⟨#[]⟩, .slice none 0 0] 24); simpa [World.setCell] using this
          have hsz2 := (HST.out.nu HN2.out).mv.size
          have hcl := HC2.out W3 (by have := HB.out; omega) hP3
          rw [show ((n + 1 : Nat) : Int) = (n : Int) + 1 by omega] at hcl
          have HCL := hid hcl
          have HW3 := hid hW3
          have HB9 := hid hb9
          have HS2 : Hid (pb < w2.heap.size) := by have := HB.out; have := HPL.out; show _ < _; omega
          clear hs3 hP3 hb9 hsz2 hcl hW3 HC2
          go_wp2_with fail
          refine Calls.mono HCL.out ?_
          rintro e w4 ⟨hm4, hout⟩
          obtain ⟨u0, u1, u2, rfl, ku, su, au, lu, cu, rfl, rfl, rfl⟩ := hout.form
          have h94 := hm4.heap HB9.out (fun e => by have := HS2.out; omega)
          have HM4 := hid hm4
          have HO4 := hid hout
          have H94 := hid h94
          obtain ⟨y0, y1, y2, g0, g1, g2⟩ := three h94
          clear hm4 hout h94 HCL
          go_upto_region 14 with fail
          clear y0 y1 y2 g0 g1 g2
          generalize hW5 : World.setCell (World.setCell (World.setCell _ _ _) _ _) _ _ = W5
          have h5 := set3 H94.out (.int .i64 ku) (.string su) (.slice au lu cu)
          rw [hW5] at h5
          have H5 := hid h5
          obtain ⟨z0, z1, z2, _, _, _⟩ := three h5.blk
          have hb5 : W5.heap[w1.heap.size]? = some (.cells #[.int .i64 k', .string s', .slice a' l' c'] 24 (0, 0)) := by
            have hs := HST.out.nu HN2.out
            have hlt5 := lt_of_block hs.r5
            have h3 : W3.heap[w1.heap.size]? = some (.cells #[.int .i64 k', .string s', .slice a' l' c'] 24 (0, 0)) := by
              rw [← HW3.out]; exact (Mv.alloc (fun _ => False) _ _).heap ((Mv.setCell w2 ⟨pb, 1, none⟩ _).heap hs.r5 (by have := HB.out; have := HPL.out; have := hs.lt; show ¬ _ = pb; omega)) id
            exact h5.mv.heap (HM4.out.heap h3 (by have := HB.out; have := HPL.out; have := hs.lt; omega)) (by omega)
          have HB5 := hid hb5
          obtain ⟨x0, x1, x2, j0, j1, j2⟩ := three hb5
          have hlt5 : w1.heap.size < W5.heap.size := lt_of_block hb5
          clear hW5 h5 hb5
          go_upto_region 15 with fail
          generalize hW7 : World.alloc _ _ = W7
          have h6 := set3 HB5.out (.int .i64 o.kind) (.string ⟨#[]⟩) (.slice (some ⟨W5.heap.size, 0, none⟩) 2 2)
          have hgrow := FSt.grow HPL.out HB.out HST.out HN2.out HW3.out HM4.out H5.out h6 (.cells #[.int .i64 k', .string s', .slice a' l' c', .int .i64 ku, .string su, .slice au lu cu] 24)
          have hstep := round_step hE HB.out HST.out HN2.out HW3.out HM4.out H5.out h6 HT.out HO4.out
          rw [hW7] at hgrow hstep
          have HGR := hid hgrow
          have HSTP := hid hstep
          clear hW7 h6 hgrow hstep x0 x1 x2 j0 j1 j2 z0 z1 z2
          go_wp2_with fail
          go_roundg g'
          case measure => omega
          case rel =>
            refine ⟨_, _, _, ⟨_, _, _, _, _, rfl, rfl, rfl⟩, HGR.out, ?_⟩
            rcases HCA.out with ⟨q, h1, rfl⟩ | ⟨u, r, h1, h2⟩
            · rw [HY.out] at h1
              cases h1
              obtain ⟨j, hj, hp⟩ := HSTP.out
              exact .inr ⟨q, j, rfl, hj, hp⟩
            · have hsf := from_suffix ((suffix f).1 _ _ _ _ h1)
              rw [HY.out] at h1
              cases h1
              obtain ⟨ht, hp⟩ := HSTP.out
              exact .inl ⟨_, _, Nat.sub_le _ _, ht, hp, by rw [← hsf]; exact h2, by have := HG.out; omega⟩
      · have hcase := spec_right hl hsp ho
        obtain ⟨y, hy⟩ : ∃ y, fm f n (from' L (i + 1)) = some y := by
          rcases hcase with ⟨q, h1, _⟩ | ⟨u, r, h1, _⟩
          · exact ⟨_, h1⟩
          · exact ⟨_, h1⟩
        have HC2 := hid (fun W hB hP => ih n (by omega) (i + 1) hil y hy W hB hP)
        have HCA := hid hcase
        have HY := hid hy
        have hb2 : ((n : Int) == 2) = false := by simp; omega
        have hb3 : ((n : Int) == 3) = false := by simp; omega
        clear hst hps HS HL0 ht hsp hg hkl ho hcase hy hl
        go_wp2_with fail
        refine Calls.mono HW.out ?_
        rintro e wa ⟨rfl, nd, rfl⟩
        go_wp2_with fail
        refine Calls.mono (HOp.out _) ?_
        rintro e w2 ⟨rfl, hm2⟩
        have hn2 : Nu wr w2 := mv0 (Mv.drewN _ _ _) hm2
        have HN2 := hid hn2
        have p1 := (HPS.out.nu hn2).c1
        have g1 := (HPS.out.nu hn2).fr 1
        clear hm2 hn2 p2
        go_upto_region 11 with fail
        clear p1 g1
        generalize hW3 : World.alloc _ _ = W3
        have hs3 : W3.heap.size = w2.heap.size + 1 := by rw [← hW3]; simp [World.setCell]
        have hP3 : PIs W3 pb ao cap L (i + 1) (-1) := by rw [← hW3]; exact (HPS.out.nu HN2.out).at1.nu (Mv.alloc _ _ _)
        have hb9 : W3.heap[w2.heap.size]? = some (.cells #[.int .i64 0, .string ⟨#[]⟩, .slice none 0 0] 24 (0, 0)) := by
          rw [← hW3]; have := heap_alloc_new (w2.setCell ⟨pb, 1, none⟩ (.int .i64 ((i : Int) + 1))) (.cells #[.int .i64 0, .string ⟨#[]⟩, .slice none 0 0] 24); simpa [World.setCell] using this
        have hsz2 := (HST.out.nu HN2.out).mv.size
        have hcl := HC2.out W3 (by have := HB.out; omega) hP3
        have HCL := hid hcl
        have HW3 := hid hW3
        have HB9 := hid hb9
        have HS2 : Hid (pb < w2.heap.size) := by have := HB.out; have := HPL.out; show _ < _; omega
        clear hs3 hP3 hb9 hsz2 hcl hW3 HC2
        go_wp2_with fail
        refine Calls.mono HCL.out ?_
        rintro e w4 ⟨hm4, hout⟩
        obtain ⟨u0, u1, u2, rfl, ku, su, au, lu, cu, rfl, rfl, rfl⟩ := hout.form
        have h94 := hm4.heap HB9.out (fun e => by have := HS2.out; omega)
        have HM4 := hid hm4
        have HO4 := hid hout
        have H94 := hid h94
        obtain ⟨y0, y1, y2, g0, g1, g2⟩ := three h94
        clear hm4 hout h94 HCL
        go_upto_region 14 with fail
        clear y0 y1 y2 g0 g1 g2
        generalize hW5 : World.setCell (World.setCell (World.setCell _ _ _) _ _) _ _ = W5
        have h5 := set3 H94.out (.int .i64 ku) (.string su) (.slice au lu cu)
        rw [hW5] at h5
        have H5 := hid h5
        obtain ⟨z0, z1, z2, _, _, _⟩ := three h5.blk
        have hb5 : W5.heap[w1.heap.size]? = some (.cells #[.int .i64 k', .string s', .slice a' l' c'] 24 (0, 0)) := by
          have hs := HST.out.nu HN2.out
          have hlt5 := lt_of_block hs.r5
          have h3 : W3.heap[w1.heap.size]? = some (.cells #[.int .i64 k', .string s', .slice a' l' c'] 24 (0, 0)) := by
            rw [← HW3.out]; exact (Mv.alloc (fun _ => False) _ _).heap ((Mv.setCell w2 ⟨pb, 1, none⟩ _).heap hs.r5 (by have := HB.out; have := HPL.out; have := hs.lt; show ¬ _ = pb; omega)) id
          exact h5.mv.heap (HM4.out.heap h3 (by have := HB.out; have := HPL.out; have := hs.lt; omega)) (by omega)
        have HB5 := hid hb5
        obtain ⟨x0, x1, x2, j0, j1, j2⟩ := three hb5
        have hlt5 : w1.heap.size < W5.heap.size := lt_of_block hb5
        clear hW5 h5 hb5
        go_upto_region 15 with fail
        generalize hW7 : World.alloc _ _ = W7
        have h6 := set3 HB5.out (.int .i64 o.kind) (.string ⟨#[]⟩) (.slice (some ⟨W5.heap.size, 0, none⟩) 2 2)
        have hgrow := FSt.grow HPL.out HB.out HST.out HN2.out HW3.out HM4.out H5.out h6 (.cells #[.int .i64 k', .string s', .slice a' l' c', .int .i64 ku, .string su, .slice au lu cu] 24)
        have hstep := round_step hE HB.out HST.out HN2.out HW3.out HM4.out H5.out h6 HT.out HO4.out
        rw [hW7] at hgrow hstep
        have HGR := hid hgrow
        have HSTP := hid hstep
        clear hW7 h6 hgrow hstep x0 x1 x2 j0 j1 j2 z0 z1 z2
        obtain ⟨v0, v1, v2, _, _, _⟩ := three HGR.out.r5
        obtain ⟨t0, t1, t2, m0, m1, m2⟩ := three HGR.out.r4
        go_wp2_with fail
        refine bodyPost_ret (v := .agg #[.int .i64 o.kind, .string ⟨#[]⟩, .slice (some ⟨W5.heap.size, 0, none⟩) 2 2]) (by simp [results, Tryd.results21, go_sem, t0, t1, t2, m0, m1, m2]) rfl ?_
        rcases HCA.out with ⟨q, h1, rfl⟩ | ⟨u, r, h1, rfl⟩
        · rw [HY.out] at h1
          cases h1
          obtain ⟨j, hj, hp⟩ := HSTP.out
          exact ret_err hE HB.out HGR.out ⟨_, _, _, _, _, rfl, rfl, rfl⟩ hj hp (set3 HGR.out.r4 _ _ _)
        · have hsf := from_suffix ((suffix f).1 _ _ _ _ h1)
          rw [HY.out] at h1
          cases h1
          obtain ⟨ht, hp⟩ := HSTP.out
          rw [hsf]
          exact ret_ok hE HB.out HGR.out (Nat.sub_le _ _) ht hp (set3 HGR.out.r4 _ _ _)

end Go.Proofs.YtidihaecgmbhpaaDoor
/-
  What words are, by their classes; plain laws.
-/
set_option linter.unusedSimpArgs false
namespace Go.Proofs.YtidihaecgmbhpaaDoor
open Go.RowKit Q

theorem if_other {x a b : Cl} {p : Prop} [Decidable p] (ha : a ≠ x) (h : (if p then a else b) = x) : b = x := by
  by_cases hp : p
  · rw [if_pos hp] at h; exact absurd h ha
  · rwa [if_neg hp] at h
theorem if_this {x b : Cl} {p : Prop} [Decidable p] (h : (if p then x else b) = x) (hb : b ≠ x) : p := by
  by_cases hp : p
  · exact hp
  · rw [if_neg hp] at h; exact absurd h hb
theorem if_end {w : Wd} {x : Cl} (h1 : x ≠ .nm) (h2 : x ≠ .no) : (if isName w then Cl.nm else .no) ≠ x := by
  cases isName w
  · exact fun e => h2 e.symm
  · exact fun e => h1 e.symm
theorem if_ne {x a b : Cl} {p : Prop} [Decidable p] (ha : a ≠ x) (hb : b ≠ x) : (if p then a else b) ≠ x := by
  by_cases hp : p
  · rw [if_pos hp]; exact ha
  · rw [if_neg hp]; exact hb

theorem cls_lp_inv {w : Wd} (h : cls w = .lp) : w = [40] := by
  unfold cls at h
  refine if_this h ?_
  refine if_ne (by simp) ?_
  refine if_ne (by simp) ?_
  refine if_ne (by simp) ?_
  refine if_ne (by simp) ?_
  refine if_ne (by simp) ?_
  refine if_ne (by simp) ?_
  refine if_ne (by simp) ?_
  refine if_ne (by simp) ?_
  refine if_ne (by simp) ?_
  refine if_ne (by simp) ?_
  refine if_ne (by simp) ?_
  refine if_ne (by simp) ?_
  refine if_ne (by simp) ?_
  refine if_ne (by simp) ?_
  exact if_end (by simp) (by simp)
theorem cls_tt_inv {w : Wd} (h : cls w = .tt) : w = [116, 114, 117, 101] := by
  unfold cls at h
  replace h := if_other (by simp) h
  replace h := if_other (by simp) h
  refine if_this h ?_
  refine if_ne (by simp) ?_
  refine if_ne (by simp) ?_
  refine if_ne (by simp) ?_
  refine if_ne (by simp) ?_
  refine if_ne (by simp) ?_
  refine if_ne (by simp) ?_
  refine if_ne (by simp) ?_
  refine if_ne (by simp) ?_
  refine if_ne (by simp) ?_
  refine if_ne (by simp) ?_
  refine if_ne (by simp) ?_
  refine if_ne (by simp) ?_
  exact if_end (by simp) (by simp)
theorem cls_ff_inv {w : Wd} (h : cls w = .ff) : w = [102, 97, 108, 115, 101] := by
  unfold cls at h
  replace h := if_other (by simp) h
  replace h := if_other (by simp) h
  replace h := if_other (by simp) h
  refine if_this h ?_
  refine if_ne (by simp) ?_
  refine if_ne (by simp) ?_
  refine if_ne (by simp) ?_
  refine if_ne (by simp) ?_
  refine if_ne (by simp) ?_
  refine if_ne (by simp) ?_
  refine if_ne (by simp) ?_
  refine if_ne (by simp) ?_
  refine if_ne (by simp) ?_
  refine if_ne (by simp) ?_
  refine if_ne (by simp) ?_
  exact if_end (by simp) (by simp)
theorem cls_not_inv {w : Wd} (h : cls w = .u .not) : w = [33] := by
  unfold cls at h
  replace h := if_other (by simp) h
  replace h := if_other (by simp) h
  replace h := if_other (by simp) h
  replace h := if_other (by simp) h
  refine if_this h ?_
  refine if_ne (by simp) ?_
  refine if_ne (by simp) ?_
  refine if_ne (by simp) ?_
  refine if_ne (by simp) ?_
  refine if_ne (by simp) ?_
  refine if_ne (by simp) ?_
  refine if_ne (by simp) ?_
  refine if_ne (by simp) ?_
  refine if_ne (by simp) ?_
  refine if_ne (by simp) ?_
  exact if_end (by simp) (by simp)
theorem cls_next_inv {w : Wd} (h : cls w = .u .next) : w = [88] := by
  unfold cls at h
  replace h := if_other (by simp) h
  replace h := if_other (by simp) h
  replace h := if_other (by simp) h
  replace h := if_other (by simp) h
  replace h := if_other (by simp) h
  refine if_this h ?_
  refine if_ne (by simp) ?_
  refine if_ne (by simp) ?_
  refine if_ne (by simp) ?_
  refine if_ne (by simp) ?_
  refine if_ne (by simp) ?_
  refine if_ne (by simp) ?_
  refine if_ne (by simp) ?_
  refine if_ne (by simp) ?_
  refine if_ne (by simp) ?_
  exact if_end (by simp) (by simp)
theorem cls_always_inv {w : Wd} (h : cls w = .u .always) : w = [91, 93] := by
  unfold cls at h
  replace h := if_other (by simp) h
  replace h := if_other (by simp) h
  replace h := if_other (by simp) h
  replace h := if_other (by simp) h
  replace h := if_other (by simp) h
  replace h := if_other (by simp) h
  refine if_this h ?_
  refine if_ne (by simp) ?_
  refine if_ne (by simp) ?_
  refine if_ne (by simp) ?_
  refine if_ne (by simp) ?_
  refine if_ne (by simp) ?_
  refine if_ne (by simp) ?_
  refine if_ne (by simp) ?_
  refine if_ne (by simp) ?_
  exact if_end (by simp) (by simp)
theorem cls_fin_inv {w : Wd} (h : cls w = .u .fin) : w = [60, 62] := by
  unfold cls at h
  replace h := if_other (by simp) h
  replace h := if_other (by simp) h
  replace h := if_other (by simp) h
  replace h := if_other (by simp) h
  replace h := if_other (by simp) h
  replace h := if_other (by simp) h
  replace h := if_other (by simp) h
  refine if_this h ?_
  refine if_ne (by simp) ?_
  refine if_ne (by simp) ?_
  refine if_ne (by simp) ?_
  refine if_ne (by simp) ?_
  refine if_ne (by simp) ?_
  refine if_ne (by simp) ?_
  refine if_ne (by simp) ?_
  exact if_end (by simp) (by simp)

/-- The words that begin a formula, names aside. -/
def begins : List Wd := [[33], [88], [91, 93], [60, 62], [116, 114, 117, 101], [102, 97, 108, 115, 101], [40]]

theorem pf_other {f : Nat} {w : Wd} {r : List Wd} (h : w ∉ begins) (hn : isName w = false) : pf (f + 1) (w :: r) = some (.error (r.length + 1)) := by
  rw [pf]
  split
  · rename_i hc; exact absurd (by rw [cls_tt_inv hc]; decide) h
  · rename_i hc; exact absurd (by rw [cls_ff_inv hc]; decide) h
  · rename_i hc; rw [cls_nm hc] at hn; cases hn
  · rename_i o hc
    refine absurd ?_ h
    cases o
    · rw [cls_not_inv hc]; decide
    · rw [cls_next_inv hc]; decide
    · rw [cls_always_inv hc]; decide
    · rw [cls_fin_inv hc]; decide
  · rename_i hc; exact absurd (by rw [cls_lp_inv hc]; decide) h
  · rfl

theorem tl_eq (w c : Wd) : ((strOfL w).toList == c) = decide (w = c) := by
  rw [strOfL_toList, Bool.eq_iff_iff]; simp

/-- How the seven tests come out. -/
structure Seven (S : ByteArray) (b1 b2 b3 b4 b5 b6 b7 : Bool) : Prop where
  t1 : (S.toList == [33]) = b1
  t2 : (S.toList == [88]) = b2
  t3 : (S.toList == [91, 93]) = b3
  t4 : (S.toList == [60, 62]) = b4
  t5 : (S.toList == [116, 114, 117, 101]) = b5
  t6 : (S.toList == [102, 97, 108, 115, 101]) = b6
  t7 : (S.toList == [40]) = b7

theorem seven (w : Wd) : Seven (strOfL w) (decide (w = [33])) (decide (w = [88])) (decide (w = [91, 93])) (decide (w = [60, 62])) (decide (w = [116, 114, 117, 101])) (decide (w = [102, 97, 108, 115, 101])) (decide (w = [40])) :=
  ⟨tl_eq _ _, tl_eq _ _, tl_eq _ _, tl_eq _ _, tl_eq _ _, tl_eq _ _, tl_eq _ _⟩

theorem seven_none {w : Wd} (h : w ∉ begins) : Seven (strOfL w) false false false false false false false := by
  have := seven w
  simp only [begins, List.mem_cons, List.not_mem_nil, or_false, not_or] at h
  obtain ⟨h1, h2, h3, h4, h5, h6, h7⟩ := h
  rwa [decide_eq_false h1, decide_eq_false h2, decide_eq_false h3, decide_eq_false h4, decide_eq_false h5, decide_eq_false h6, decide_eq_false h7] at this

/-- The result's block, and the reader, in prefixed. -/
theorem ret_leaf {w W0 wr W : World} {pb : Nat} {ao : Option Addr} {cap : Nat} {L : List (Wd × Nat)} {B i f : Nat} {x : R} {d0 d1 d2 : Value} (hE : PEnv pb ao B) (hB : B ≤ w.heap.size) (hn : Nu w W0) (hm : Mv (· = pb) W0 wr)
    (hp : PIs wr pb ao cap L i (-1)) (h3 : Set3 wr W w.heap.size d0 d1 d2 24) {t : F} (ht : TIn wr (fun b => w.heap.size < b) d0 d1 d2 t.t) (hi : i ≤ L.length) (hx : x = .ok (t, from' L i)) : Mv (· = pb) w W ∧ Out w W pb ao cap L f (.returned (.agg #[d0, d1, d2])) x := by
  subst hx
  refine ⟨((hn.mono (fun _ h => h.elim)).trans hm (fun _ h => .inl h)).trans h3.mv (fun y hy => .inr (Nat.le_of_eq hy.symm)), d0, d1, d2, rfl, (ht.mv h3.mv (fun y hy _ e => by omega)).mono (fun y hy _ => by omega), ?_⟩
  have : L.length - (from' L i).length = i := by rw [from_length]; omega
  rw [this]
  exact hp.far hE h3.mv (fun y hy => by omega)

theorem ret_bad {w W0 wr W : World} {pb : Nat} {ao : Option Addr} {cap : Nat} {L : List (Wd × Nat)} {B j f q : Nat} {d0 d1 d2 : Value} (hE : PEnv pb ao B) (hB : B ≤ w.heap.size) (hn : Nu w W0) (hm : Mv (· = pb) W0 wr)
    (hp : PIs wr pb ao cap L j ((L.length - q : Nat) : Int)) (h3 : Set3 wr W w.heap.size d0 d1 d2 24) (hc : Cell3 d0 d1 d2) (hj : j ≤ L.length + f) : Mv (· = pb) w W ∧ Out w W pb ao cap L f (.returned (.agg #[d0, d1, d2])) (.error q) :=
  ⟨((hn.mono (fun _ h => h.elim)).trans hm (fun _ h => .inl h)).trans h3.mv (fun y hy => .inr (Nat.le_of_eq hy.symm)), d0, d1, d2, j, rfl, hc, hj, hp.far hE h3.mv (fun y hy => by omega)⟩

end Go.Proofs.YtidihaecgmbhpaaDoor
