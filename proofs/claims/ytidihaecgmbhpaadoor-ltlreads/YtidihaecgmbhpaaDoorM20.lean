/-
  QRefs, QReads.
-/
import Derived.Test.YtidihaecgmbhpaaDoorM10
import Derived.Test.YtidihaecgmbhpaaDoorM11
import Derived.Test.YtidihaecgmbhpaaDoorM12
import Derived.Test.YtidihaecgmbhpaaDoorM16
import Derived.Test.YtidihaecgmbhpaaDoorM19
import Derived.Test.YtidihaecgmbhpaaDoorM9
/-
  What the reference gives, in the contracts' words.
-/
set_option linter.unusedSimpArgs false
namespace Go.Proofs.YtidihaecgmbhpaaDoor
open Go.RowKit Q

/-- A tree in new blocks. -/
def New (w w' : World) (v : Value) (t : T) : Prop := ∃ d0 d1 d2, v = .agg #[d0, d1, d2] ∧ TIn w' (fun b => w.heap.size ≤ b) d0 d1 d2 t

theorem rPrint_any (t : T) (hs : t.size ≤ 1000000) (w : World) (c0 c1 c2 : Value) (h : TAt w c0 c1 c2 t) : Looks 14 #[.agg #[c0, c1, c2]] w (.tuple #[.string (strOfL (prn t).1), .int .i64 ((prn t).2 : Int)]) := by
  by_cases hm : t.may = true
  · obtain ⟨ho, he⟩ := fOf_ok hm
    have hp : prn t = printF (fOf t) := by unfold prn; rw [if_pos hm]
    rw [hp]
    refine Print_any (fOf t) ho ?_ w c0 c1 c2 (by rw [he]; exact h)
    rw [← (fOf t).size_t, he]
    omega
  · have hp : prn t = ([], 92) := by unfold prn; rw [if_neg hm]
    rw [hp]
    exact Print_no t (by omega) (by simpa using hm) w c0 c1 c2 h

theorem rParse_any (s : Wd) (hs : s.length ≤ 140737488355328) (w : World) : Calls Tryd.prog 7 #[.string (strOfL s)] w fun e w' => Nu w w' ∧ ∃ v, e = .returned (.tuple #[v, .agg #[.int .i64 ((pc s).1 : Int), .int .i64 ((pc s).2 : Int)]]) ∧ New w w' v (pt s) := by
  refine Calls.mono (Parse_any s hs w) ?_
  rintro e w' ⟨hm, h⟩
  refine ⟨hm, ?_⟩
  unfold pc pt
  cases hp : parse s with
  | ok f =>
    rw [hp] at h
    obtain ⟨d0, d1, d2, rfl, ht⟩ := h
    exact ⟨_, rfl, d0, d1, d2, rfl, ht⟩
  | error x =>
    obtain ⟨c, p⟩ := x
    rw [hp] at h
    simp only at h
    subst h
    exact ⟨_, rfl, _, _, _, rfl, zero_t _ _⟩

theorem rNormal_any (t : T) (hs : t.size ≤ 1000000) (w : World) (c0 c1 c2 : Value) (h : TAt w c0 c1 c2 t) : Calls Tryd.prog 16 #[.agg #[c0, c1, c2]] w fun e w' => Nu w w' ∧ ∃ v, e = .returned (.tuple #[v, .int .i64 (nrmE t : Int)]) ∧ New w w' v (nrmT t) := by
  refine Calls.mono (Normal_any t (by omega) w c0 c1 c2 h) ?_
  rintro e w' ⟨hm, d0, d1, d2, n, u, rfl, hn, ht⟩
  have hE : n = nrmE t ∧ u = nrmT t := by
    rcases hn with ⟨h1, rfl, rfl⟩ | ⟨h1, f, ho, rfl, hf⟩
    · have hE : nrmE t = chk t := by unfold nrmE; rw [if_pos h1]
      exact ⟨hE.symm, by unfold nrmT; rw [if_neg (by omega)]⟩
    · have hE : nrmE f.t = (if 20000 < cnt true f then 2 else 0) := by unfold nrmE; rw [if_neg (by simpa using h1), fOf_t ho]
      rcases hf with ⟨h2, rfl, rfl⟩ | ⟨h2, rfl, rfl⟩
      · rw [if_pos h2] at hE
        exact ⟨hE.symm, by unfold nrmT; rw [if_neg (by omega)]⟩
      · rw [if_neg (by omega)] at hE
        exact ⟨hE.symm, by unfold nrmT; rw [if_pos hE, fOf_t ho]⟩
  obtain ⟨rfl, rfl⟩ := hE
  exact ⟨hm, _, rfl, d0, d1, d2, rfl, ht⟩

theorem Ows.new {w w' : World} {v : Value} {t : T} (h : Ows w w' v t) : New w w' v t := by
  obtain ⟨d0, d1, d2, _, h1, h2, _⟩ := h
  exact ⟨d0, d1, d2, h1, h2⟩

end Go.Proofs.YtidihaecgmbhpaaDoor
/-
  LtlReads answers true, whatever the text.
-/
set_option linter.unusedSimpArgs false
namespace Go.Proofs.YtidihaecgmbhpaaDoor
open Go.RowKit Q

theorem Sp.mono {w : World} {P R : Nat → Prop} (hp : ∀ x, P x → x < w.heap.size → R x) : ∀ {m : Nat} {v : Value}, Sp w P m v → Sp w R m v
  | 0, _, h => h
  | m + 1, _, ⟨ao, len, cap, h1, h2, h3, h4⟩ => ⟨ao, len, cap, h1, h2, h3, by
      rcases h4 with h4 | ⟨b, o, g1, g2, g3⟩
      · exact .inl h4
      · by_cases hc : cap = 0
        · exact .inl hc
        · obtain ⟨_, _, _, c0, _⟩ := g3 0 (by omega)
          refine .inr ⟨b, o, g1, hp b g2 (World.block_lt_of_cell? w _ c0), fun i hi => ?_⟩
          obtain ⟨k, s, c, c0, c1, c2, c3, f0, f1, f2⟩ := g3 i hi
          exact ⟨k, s, c, c0, c1, c2, c3.mono hp, f0, f1, f2⟩⟩

set_option maxHeartbeats 8000000 in
theorem LtlReads_walk (H : Cons) (s : Wd) (hs : s.length ≤ 140737488355328) (w : World) (hG : G3 w) : Looks 3 #[.string (strOfL s)] w (.bool true) := by
  have HK := hid (fun W (hW : Nu w W) => known_any H W (hG.nu hW))
  have HR := hid (fun W => rParse_any s hs W)
  have HP := hid (fun W (hW : Nu w W) => H.parse s hs W (hG.nu hW))
  have HSm := hid (fun W c0 c1 c2 d0 d1 d2 => Same_any (pt s) (pt s) W c0 c1 c2 d0 d1 d2)
  rw [T.same_refl] at HSm
  generalize pt s = T0 at *
  obtain ⟨C, hC⟩ : ∃ C : Int, ((pc s).1 : Int) = C := ⟨_, rfl⟩
  obtain ⟨A, hA⟩ : ∃ A : Int, ((pc s).2 : Int) = A := ⟨_, rfl⟩
  rw [hC, hA] at HR HP
  generalize strOfL s = S at *
  clear H hs hC hA hG
  unfold Looks
  go_enter Tryd.func3, Tryd.ntmps3
  go_wp2_with fail
  refine Calls.mono (HR.out w) ?_
  rintro e w1 ⟨hm1, v, rfl, d0, d1, d2, rfl, ht⟩
  obtain ⟨k1, s1, a1, l1, c1, rfl, rfl, rfl⟩ := ht.cell3
  have HM1 := hid hm1
  go_upto_region 2 with fail
  have hB := box5 w1 (.int .i64 k1) (.string s1) (.slice a1 l1 c1) (.int .i64 C) (.int .i64 A) 24 27
  generalize hW : World.alloc _ _ = W1 at hB ⊢
  obtain ⟨hn1, x0, x1, x2, y0, y1⟩ := hB
  have HN1 := hid hn1
  have HT1 := hid ((ht.mono (R := fun b => b < w1.heap.size) (fun _ _ h => h)).nu hn1)
  have hlx : w1.heap.size + 1 < W1.heap.size := World.block_lt_of_cell? W1 _ y0
  have HLX := hid hlx
  clear hW hn1 ht hm1 hlx
  go_wp2_with fail
  refine Calls.mono (HP.out W1 (mv0 HM1.out HN1.out)) ?_
  rintro e w2 ⟨hm2, v, rfl, e0, e1, e2, m, rfl, ht2, hsp⟩
  obtain ⟨k2, s2, a2, l2, c2, rfl, rfl, rfl⟩ := ht2.cell3
  have HM2 := hid hm2
  replace x0 := cell_mv hm2 x0 id
  replace x1 := cell_mv hm2 x1 id
  replace x2 := cell_mv hm2 x2 id
  replace y0 := cell_mv hm2 y0 id
  replace y1 := cell_mv hm2 y1 id
  clear hm2
  go_upto_region 3 with fail
  have hB := box5 w2 (.int .i64 k2) (.string s2) (.slice a2 l2 c2) (.int .i64 C) (.int .i64 A) 24 27
  generalize hW : World.alloc _ _ = W2 at hB ⊢
  obtain ⟨hn2, p0, p1, p2, q0, q1⟩ := hB
  have HN2 := hid hn2
  have HT2 := hid (ht2.nu hn2)
  have HSP := hid ((hsp.mono (R := fun b => W1.heap.size ≤ b ∧ b < w2.heap.size) (fun _ h h' => ⟨h, h'⟩)).nu hn2)
  have hlp : w2.heap.size + 1 < W2.heap.size := World.block_lt_of_cell? W2 _ q0
  have HLP := hid hlp
  replace x0 := cell_mv hn2 x0 id
  replace x1 := cell_mv hn2 x1 id
  replace x2 := cell_mv hn2 x2 id
  replace y0 := cell_mv hn2 y0 id
  replace y1 := cell_mv hn2 y1 id
  clear hW hn2 ht2 hsp hlp
  go_wp2_with fail
  refine Calls.mono (HP.out W2 (mv0 (mv0 (mv0 HM1.out HN1.out) HM2.out) HN2.out)) ?_
  rintro e w3 ⟨hm3, v, rfl, f0, f1, f2, m', rfl, ht3, -⟩
  obtain ⟨k3, s3, a3, l3, c3, rfl, rfl, rfl⟩ := ht3.cell3
  have HM3 := hid hm3
  replace x0 := cell_mv hm3 x0 id
  replace x1 := cell_mv hm3 x1 id
  replace x2 := cell_mv hm3 x2 id
  replace y0 := cell_mv hm3 y0 id
  replace y1 := cell_mv hm3 y1 id
  replace p0 := cell_mv hm3 p0 id
  replace p1 := cell_mv hm3 p1 id
  replace p2 := cell_mv hm3 p2 id
  replace q0 := cell_mv hm3 q0 id
  replace q1 := cell_mv hm3 q1 id
  clear hm3
  go_upto_region 4 with fail
  have hB := box5 w3 (.int .i64 k3) (.string s3) (.slice a3 l3 c3) (.int .i64 C) (.int .i64 A) 24 27
  generalize hW : World.alloc _ _ = W3 at hB ⊢
  obtain ⟨hn3, r0, r1, r2, _, _⟩ := hB
  have HT3 := hid (ht3.nu hn3)
  have HN3 := hid hn3
  replace x0 := cell_mv hn3 x0 id
  replace x1 := cell_mv hn3 x1 id
  replace x2 := cell_mv hn3 x2 id
  replace y0 := cell_mv hn3 y0 id
  replace y1 := cell_mv hn3 y1 id
  replace p0 := cell_mv hn3 p0 id
  replace p1 := cell_mv hn3 p1 id
  replace p2 := cell_mv hn3 p2 id
  replace q0 := cell_mv hn3 q0 id
  replace q1 := cell_mv hn3 q1 id
  clear hW hn3 ht3
  go_wp2_with fail
  refine Calls.mono (HSm.out _ _ _ _ _ _ _ ((HT2.out.nu HM3.out).nu HN3.out).any (((((HT1.out.nu HM2.out).nu HN2.out).nu HM3.out).nu HN3.out).any)) ?_
  rintro e w4 ⟨rfl, hm4⟩
  have HM4 := hid hm4
  replace x0 := cell_mv hm4 x0 id
  replace x1 := cell_mv hm4 x1 id
  replace x2 := cell_mv hm4 x2 id
  replace p0 := cell_mv hm4 p0 id
  replace p1 := cell_mv hm4 p1 id
  replace p2 := cell_mv hm4 p2 id
  replace r0 := cell_mv hm4 r0 id
  replace r1 := cell_mv hm4 r1 id
  replace r2 := cell_mv hm4 r2 id
  clear hm4 y0 y1 q0 q1
  go_wp2_with fail
  refine Calls.mono (spoil_any _ m w4 k2 s2 _ (((HSP.out.nu HM3.out).nu HN3.out).nu HM4.out)) ?_
  rintro e w5 ⟨rfl, hm5, -⟩
  have z1 := HM1.out.size
  have z2 := HM2.out.size
  have z3 := HM3.out.size
  have zx := HLX.out
  have zp := HLP.out
  have zw := HN2.out.size
  have n1 : ¬ (W1.heap.size ≤ w1.heap.size ∧ w1.heap.size < w2.heap.size) := by omega
  have n3 : ¬ (W1.heap.size ≤ w3.heap.size ∧ w3.heap.size < w2.heap.size) := by omega
  replace x0 := cell_mv hm5 x0 n1
  replace x1 := cell_mv hm5 x1 n1
  replace x2 := cell_mv hm5 x2 n1
  replace r0 := cell_mv hm5 r0 n3
  replace r1 := cell_mv hm5 r1 n3
  replace r2 := cell_mv hm5 r2 n3
  have HTW := hid ((((((HT1.out.nu HM2.out).nu HN2.out).nu HM3.out).nu HN3.out).nu HM4.out).mv hm5 (fun x hx _ hh => by omega)).any
  have HTU := hid ((HT3.out.nu HM4.out).mv hm5 (fun x hx _ hh => by omega)).any
  have HM5 := hid ((mv0 (mv0 (mv0 (mv0 (mv0 (mv0 (mv0 HM1.out HN1.out) HM2.out) HN2.out) HM3.out) HN3.out) HM4.out) (Mv.refl _ _)).trans hm5 (fun y hy => .inr (by omega)))
  clear hm5 p0 p1 p2 n1 n3 z1 z2 z3 zx zp zw
  go_wp2_with fail
  refine Calls.mono (HSm.out _ _ _ _ _ _ _ HTU.out HTW.out) ?_
  rintro e w6 ⟨rfl, hm6⟩
  have HM6 := hid (mv0 HM5.out hm6)
  clear hm6
  go_wp2_with fail
  refine Calls.mono (HK.out _ HM6.out) ?_
  rintro e w7 ⟨rfl, hm7⟩
  go_wp2_with fail
  go_ret
  exact ⟨rfl, mv0 HM6.out hm7⟩

end Go.Proofs.YtidihaecgmbhpaaDoor
