/-
  VSameM.
-/
import Derived.Deep.RegionLaw
import Derived.Test.YtidihaecgmbhpabDoorM30
/-
  Two trees side by side: what happens where two parts meet.
-/
set_option linter.unusedSimpArgs false
set_option linter.unusedVariables false
namespace Go.Proofs.YtidihaecgmbhpabDoor
open Go.RowKit Q

/-- A part where it lies. -/
def PC (w : World) (xb xo : Nat) (x : A) : Prop := ∃ c0 c1 c2, w.cell? ⟨xb, xo, none⟩ = some c0 ∧ w.cell? ⟨xb, xo + 1, none⟩ = some c1 ∧ w.cell? ⟨xb, xo + 2, none⟩ = some c2 ∧ AIn w w.heap.size c0 c1 c2 x

theorem AIn.kidsV {w : World} {B : Nat} {c0 c1 c2 : Value} {k : Int} {n : Wd} {b o cap : Nat} {l : List A} (h : AIn w B c0 c1 c2 (.mk k n b o cap l)) : ∃ ao c, c2 = .slice ao l.length c ∧ l.length ≤ 140737488355328 ∧ (l ≠ [] → ao = some ⟨b, o, none⟩ ∧ c = cap ∧ ARow w B b o l) := by
  obtain ⟨_, _, _, _, ⟨rfl, ao, c, rfl⟩ | ⟨rfl, hr⟩⟩ := h.form
  · exact ⟨ao, c, rfl, by simp, fun h => absurd rfl h⟩
  · exact ⟨_, cap, rfl, hr.len, fun _ => ⟨rfl, rfl, hr⟩⟩

def Fp2 (m wb : Nat) (v : Value) (x : Nat) : Prop := x = m ∨ x = wb ∨ v.ownBlock = some x
def MeetOut (w W : World) (mb m wb : Nat) (v : Value) (M S : List (A × A)) (x y : A) (e : Ending) (W' : World) : Prop := e = .returned (.bool (x.like y)) ∧ Nu w W' ∧ Mv (Fp2 m wb v) W W' ∧ (x.like y = true → ∃ v', SmW w W' mb m wb v' (addM M (x, y)) (addS M S (x, y)) ∧ (v'.ownBlock = v.ownBlock ∨ ∃ z, v'.ownBlock = some z ∧ W.heap.size ≤ z))

theorem MeetOut.no {w W W' : World} {mb m wb : Nat} {v : Value} {M S : List (A × A)} {x y : A} (h : x.like y = false) (hn : Nu w W) (hv : Nu W W') : MeetOut w W mb m wb v M S x y (.returned (.bool false)) W' := ⟨by rw [h], mv0 hn hv, hv.mono (fun _ h => h.elim), fun e => by rw [h] at e; cases e⟩
theorem MeetOut.old {w W W' : World} {mb m wb : Nat} {v : Value} {M S : List (A × A)} {x y : A} (h : x.like y = true) (hw : SmW w W' mb m wb v M S) (hv : Nu W W') (hn : newP M (x, y) = false) : MeetOut w W mb m wb v M S x y (.returned (.bool true)) W' :=
  ⟨by rw [h], hw.nu, hv.mono (fun _ h => h.elim), fun _ => ⟨v, by unfold addM addS; rw [hn]; exact hw, .inl rfl⟩⟩

set_option maxHeartbeats 4000000 in
theorem meet_any (w W : World) (mb m wb : Nat) (v : Value) (M S : List (A × A)) (h : SmW w W mb m wb v M S) (x y : A) (xb xo yb yo : Nat) (hx : PC w xb xo x) (hy : PC w yb yo y) (hM : ∀ p ∈ M, Good5 w (key2 p)) (hlen : S.length ≤ 1000000) :
    Calls Tryd.prog 35 #[.pointer (some ⟨xb, xo, none⟩), .pointer (some ⟨yb, yo, none⟩), .pointer (some ⟨mb, 0, none⟩), .pointer (some ⟨wb, 0, none⟩)] W (MeetOut w W mb m wb v M S x y) := by
  obtain ⟨k1, n1, b1, o1, p1, l1⟩ := x
  obtain ⟨k2, n2, b2, o2, p2, l2⟩ := y
  obtain ⟨c0, c1, c2, x0, x1, x2, hxA⟩ := hx
  obtain ⟨d0, d1, d2, y0, y1, y2, hyA⟩ := hy
  obtain ⟨xk, xn, rfl, rfl, hxr⟩ := hxA.form
  obtain ⟨yk, yn, rfl, rfl, hyr⟩ := hyA.form
  obtain ⟨xa, xc, hxc, hxl, hxR⟩ := hxA.kidsV
  obtain ⟨ya, yc, hyc, hyl, hyR⟩ := hyA.kidsV
  subst hxc hyc
  have HX := hid hxR
  have HY := hid hyR
  have HW := hid h
  have HXb : Hid (xb < w.heap.size ∧ yb < w.heap.size) := ⟨World.block_lt_of_cell? w _ x0, World.block_lt_of_cell? w _ y0⟩
  have HM := hid hM
  have HL := hid hlen
  replace x0 := cell_mv h.nu x0 id
  replace x1 := cell_mv h.nu x1 id
  replace x2 := cell_mv h.nu x2 id
  replace y0 := cell_mv h.nu y0 id
  replace y1 := cell_mv h.nu y1 id
  replace y2 := cell_mv h.nu y2 id
  obtain ⟨N1, hN1⟩ : ∃ N : Nat, l1.length = N := ⟨_, rfl⟩
  obtain ⟨N2, hN2⟩ : ∃ N : Nat, l2.length = N := ⟨_, rfl⟩
  rw [hN1] at x2 hxl
  rw [hN2] at y2 hyl
  have HN := hid (And.intro hN1 hN2)
  clear hxA hyA hxR hyR hxr hyr h hM hlen hN1 hN2
  obtain ⟨O, hO⟩ : ∃ O, MeetOut w W mb m wb v M S (.mk k1 n1 b1 o1 p1 l1) (.mk k2 n2 b2 o2 p2 l2) = O := ⟨_, rfl⟩
  rw [hO]
  have HO := hid hO
  clear hO
  have HLk : Hid (A.like (.mk k1 n1 b1 o1 p1 l1) (.mk k2 n2 b2 o2 p2 l2) = (decide (k1 = k2) && decide (n1 = n2) && decide (N1 = N2))) := by
    show _ = _
    rw [← HN.out.1, ← HN.out.2]
    rfl
  go_enter Tryd.func35, Tryd.ntmps35
  go_upto_region 1 with fail
  by_cases hk : k1 = k2
  · have hk1 : (k1 != k2) = false := by simp [hk]
    have HK := hid hk
    clear hk
    by_cases hn : n1 = n2
    · have hn1 : ((strOfL n1).toList == (strOfL n2).toList) = true := by simp [hn]
      have HNm := hid hn
      clear hn
      by_cases hl : N1 = N2
      · subst hl
        have HLt : Hid (A.like (.mk k1 n1 b1 o1 p1 l1) (.mk k2 n2 b2 o2 p2 l2) = true) := by show _ = _; rw [HLk.out, decide_eq_true HK.out, decide_eq_true HNm.out]; simp
        clear HLk
        go_quiet (fail)
        generalize hWq : World.drewN W _ = W1
        have hM1 : Nu W W1 := by rw [← hWq]; exact Mv.drewN _ _ _
        have HW1 := hid (HW.out.next hM1)
        have HM1 := hid hM1
        replace x2 := cell_mv hM1 x2 id
        replace y2 := cell_mv hM1 y2 id
        clear hWq hM1 hk1 hn1 x0 x1 y0 y1
        by_cases hz : N1 = 0
        · subst hz
          go_wp2_with fail
          try go_ret
          rw [← HO.out]
          refine MeetOut.old HLt.out HW1.out HM1.out ?_
          have : l1 = [] := List.length_eq_zero_iff.1 HN.out.1
          simp [newP, A.kids, this]
        · have hz1 : ¬ (N1 : Int) = 0 := by omega
          have hz2 : 0 < N1 := by omega
          go_upto_region 5 with fail
          have hne1 : l1 ≠ [] := fun e => by have := HN.out.1; rw [e] at this; simp at this; omega
          have hne2 : l2 ≠ [] := fun e => by have := HN.out.2; rw [e] at this; simp at this; omega
          obtain ⟨rfl, rfl, hxr⟩ := HX.out hne1
          obtain ⟨rfl, rfl, hyr⟩ := HY.out hne2
          have hxb : xb < W1.heap.size := World.block_lt_of_cell? W1 _ x2
          have hyb : yb < W1.heap.size := World.block_lt_of_cell? W1 _ y2
          have HR := hid (And.intro hxr (And.intro hyr hne1))
          clear hxr hyr hne1 hne2 HX HY
          go_region
          have hM2 : Nu W1 (W1.alloc (.cells #[.pointer (some ⟨b1, o1, none⟩), .pointer (some ⟨b2, o2, none⟩), .int .i64 (N1 : Int)] 73)).drew := mv0 (Mv.alloc _ _ _) (Mv.drew _ _)
          have hkb : (W1.alloc (.cells #[.pointer (some ⟨b1, o1, none⟩), .pointer (some ⟨b2, o2, none⟩), .int .i64 (N1 : Int)] 73)).drew.heap[W1.heap.size]? = some (.cells #[.pointer (some ⟨b1, o1, none⟩), .pointer (some ⟨b2, o2, none⟩), .int .i64 (N1 : Int)] 73 (0, 0)) := heap_alloc_new W1 _
          generalize hWq : World.drew _ = W2 at hM2 hkb ⊢
          clear hWq
          replace x2 := cell_mv hM2 x2 id
          replace y2 := cell_mv hM2 y2 id
          have HW2 := hid (HW1.out.next hM2)
          have HM2 := hid (mv0 HM1.out hM2)
          have k0 : W2.cell? ⟨mb, 0, none⟩ = some (.map (some m)) := by rw [cell_blk HW2.out.mc]; rfl
          have q0 : W2.cell? ⟨W1.heap.size, 0, none⟩ = some (.pointer (some ⟨b1, o1, none⟩)) := by rw [cell_blk hkb]; rfl
          have q1 : W2.cell? ⟨W1.heap.size, 1, none⟩ = some (.pointer (some ⟨b2, o2, none⟩)) := by rw [cell_blk hkb]; rfl
          have q2 : W2.cell? ⟨W1.heap.size, 2, none⟩ = some (.int .i64 (N1 : Int)) := by rw [cell_blk hkb]; rfl
          have HGd : Hid (∀ W', Nu w W' → (∀ y ∈ M.map key2, Good5 W' y) ∧ Good5 W' (b1, o1, b2, o2, N1)) := fun W' hW' => by
            refine ⟨fun y hy => ?_, (HR.out.1.mv hW' (fun _ h => h.elim)).cln, (HR.out.2.1.mv hW' (fun _ h => h.elim)).cln⟩
            obtain ⟨p, hp, rfl⟩ := List.mem_map.1 hy
            obtain ⟨⟨cs, ty, g1⟩, cs', ty', g2⟩ := HM.out p hp
            exact ⟨⟨cs, ty, hW'.heap g1 id⟩, cs', ty', hW'.heap g2 id⟩
          have HKy : Hid (key2 (.mk k1 n1 b1 o1 xc l1, .mk k2 n2 b2 o2 yc l2) = (b1, o1, b2, o2, N1)) := by
            show _ = _
            rw [← HN.out.1]
            rfl
          have hmb : mb < W2.heap.size := lt_of_block HW2.out.mc
          have hkbl : W1.heap.size < W2.heap.size := lt_of_block hkb
          replace hxb := Nat.lt_of_lt_of_le hxb hM2.size
          replace hyb := Nat.lt_of_lt_of_le hyb hM2.size
          have HKB := hid hkb
          clear hM2 hkb
          by_cases hmet : (b1, o1, b2, o2, N1) ∈ M.map key2
          · have l1' := look_yes keysTwo HW2.out.set (HGd.out _ HW2.out.nu).1 (b1, o1, b2, o2, N1) (HGd.out _ HW2.out.nu).2 hmet
            simp only [kv5] at l1'
            have HMt := hid hmet
            clear hmet
            go_wp2_with fail
            try go_ret
            rw [← HO.out]
            refine MeetOut.old HLt.out (HW2.out.next (Mv.alloc _ _ _)) (mv0 HM2.out (Mv.alloc _ _ _)) ?_
            have : key2 (.mk k1 n1 b1 o1 xc l1, .mk k2 n2 b2 o2 yc l2) ∈ M.map key2 := by rw [HKy.out]; exact HMt.out
            simp [newP, this]
          · have l1' := look_no keysTwo HW2.out.set (HGd.out _ HW2.out.nu).1 (b1, o1, b2, o2, N1) (HGd.out _ HW2.out.nu).2 hmet
            simp only [kv5] at l1'
            have hM3 : Nu W2 (W2.alloc (.cells #[] 74)) := Mv.alloc _ _ _
            have s1 := run_store keysTwo (HW2.out.next hM3).set (HGd.out _ (HW2.out.next hM3).nu).1 (b1, o1, b2, o2, N1) (HGd.out _ (HW2.out.next hM3).nu).2 hmet
            simp only [kv5] at s1
            have HMt := hid hmet
            clear hmet
            go_upto_region 9 with fail
            have hm3 : Mv (· = m) W2 (stored (W2.alloc (.cells #[] 74)) m kv5 (b1, o1, b2, o2, N1)) := (hM3.mono (fun _ h => h.elim)).trans (stored_mv _ _ _ _) (fun _ h => .inl h)
            have hst : SetIs (stored (W2.alloc (.cells #[] 74)) m kv5 (b1, o1, b2, o2, N1)) m kv5 (M.map key2 ++ [(b1, o1, b2, o2, N1)]) := stored_set (HW2.out.next hM3).set _
            generalize stored (W2.alloc (.cells #[] 74)) m kv5 (b1, o1, b2, o2, N1) = W3 at hm3 hst ⊢
            obtain ⟨nm1, nm2, nm3⟩ := HW2.out.apart
            have hwc := hm3.heap HW2.out.wc nm2
            have hmc := hm3.heap HW2.out.mc nm1
            have hrw := row_mv HW2.out.row hm3 nm3
            have hxm : xb ≠ m := fun e => by have := HXb.out.1; have := HW2.out.hm; omega
            have hym : yb ≠ m := fun e => by have := HXb.out.2; have := HW2.out.hm; omega
            replace x2 := cell_mv hm3 x2 hxm
            replace y2 := cell_mv hm3 y2 hym
            have kw : W3.cell? ⟨wb, 0, none⟩ = some v := by rw [cell_blk hwc]; rfl
            have fw : W3.frozen? ⟨wb, 0, none⟩ = false := free_blk hwc 0
            have hwl : wb < W3.heap.size := lt_of_block hwc
            replace hxb := Nat.lt_of_lt_of_le hxb hm3.size
            replace hyb := Nat.lt_of_lt_of_le hyb hm3.size
            have HM3 := hid (And.intro hm3 (And.intro hst (And.intro hwc (And.intro hmc hrw))))
            have hbz : w.heap.size ≤ W3.heap.size := by have := HW2.out.hwb; omega
            have HBz := hid hbz
            have HAp := hid HW2.out.apart2
            clear hm3 hst hwc hmc hrw nm1 nm2 nm3 hxm hym hM3 s1 l1' k0 q0 q1 q2 hmb hkbl hbz
            obtain ⟨i0, hi0⟩ := info_parts (P := Tryd.prog) (e := 76) (z := .agg #[.slice none 0 0, .slice none 0 0]) (size := 2) (bytes := 48) (by kernel_rfl)
            have HI0 := hid hi0
            clear hi0
            go_region_law (refine step_append_lies _ (by rfl) _ _ _ (by rfl) w.heap.size 76 i0 (.agg #[.slice none 0 0, .slice none 0 0]) 2 48 Tryd.underlying71 HI0.out.1 HI0.out.2.1 HI0.out.2.2.1 HI0.out.2.2.2 rfl (by omega) v S.length (S.flatMap val2) (by rfl) (HM3.out.2.2.2.2.alloc _) ⟨W3.heap.size, 0, none⟩ 1 1 [.slice (some ⟨b1, o1, none⟩) N1 xc, .slice (some ⟨b2, o2, none⟩) N1 yc] (by rfl) (by rfl) (World.news_of_block (heap_alloc_new W3 _)) (by simp [Value.oneCell']) (by decide) (by have := HL.out; unfold maxLen; omega) (by have := HL.out; omega) (by have := HBz.out; simp; omega) (W3.heap.size + 1) (by simp) ?_; intro g5 cap5 w5 hown hgrow hat hg5; have hb5 := (Mv.grown hgrow).heap ((Mv.alloc (fun _ => False) W3 _).heap HM3.out.2.2.1 id) (fun hx => (HAp.out.2 _ hx).2 rfl); have k5 : w5.cell? ⟨wb, 0, none⟩ = some v := (by rw [cell_blk hb5]; rfl); have f5 : w5.frozen? ⟨wb, 0, none⟩ = false := free_blk hb5 0; have m5 : Mv (fun x => v.ownBlock = some x) W3 w5 := (by first | exact ((Mv.alloc (fun x => v.ownBlock = some x) W3 _).trans (Mv.drew (fun _ => False) _) (fun _ h => h.elim)).trans (Mv.grown hgrow) (fun x hx => .inl hx) | exact (Mv.alloc (fun x => v.ownBlock = some x) W3 _).trans (Mv.grown hgrow) (fun x hx => .inl hx)); have HO5 := hid (SmW.added (p := (.mk k1 n1 b1 o1 xc l1, .mk k2 n2 b2 o2 yc l2)) HW2.out HM3.out.1 (by rw [HKy.out]; exact HM3.out.2.1) (by unfold val2 E.val; simp only [A.ent, HN.out.1, HN.out.2]; exact hown) m5 hat); have HFr : Hid (Mv (Fp2 m wb v) W (w5.setCell ⟨wb, 0, none⟩ (.slice (some ⟨g5, 0, none⟩) (S.length + 1) cap5))) := (((HM2.out.mono (fun _ h => h.elim)).trans HM3.out.1 (fun _ h => .inl (.inl h))).trans m5 (fun _ h => .inl (.inr (.inr h)))).trans (Mv.setCell w5 ⟨wb, 0, none⟩ _) (fun _ h => .inl (.inr (.inl h))); have HAt := hid hat; clear hown hgrow hat hg5 hb5 m5)
            all_goals
              go_wp2_with fail
              try go_ret
              rw [← HO.out]
              refine ⟨by rw [HLt.out]; rfl, HO5.out.nu, HFr.out, fun _ => ⟨.slice (some ⟨g5, 0, none⟩) (S.length + 1) cap5, ?_, HAt.out.elim (fun h => .inl h.symm) (fun h => .inr ⟨g5, rfl, by have h7 := HM2.out.size; have h8 := HM3.out.1.size; omega⟩)⟩⟩
              have hn : newP M (.mk k1 n1 b1 o1 xc l1, .mk k2 n2 b2 o2 yc l2) = true := by
                unfold newP
                rw [HKy.out]
                have := HMt.out
                simp only [Bool.and_eq_true, decide_eq_true_eq]
                exact ⟨HR.out.2.2, this⟩
              unfold addM addS
              rw [if_pos hn, if_pos hn]
              exact HO5.out
      · have hl1 : ((N1 : Int) != (N2 : Int)) = true := by simp; omega
        have HLl := hid hl
        clear hl
        go_quiet (fail)
        go_wp2_with fail
        try go_ret
        rw [← HO.out]
        exact MeetOut.no (by rw [HLk.out, decide_eq_false HLl.out]; simp) HW.out.nu (Mv.drewN _ _ _)
    · have hn1 : ((strOfL n1).toList == (strOfL n2).toList) = false := by rw [strOfL_toList, strOfL_toList]; simpa using hn
      have HNm := hid hn
      clear hn
      go_quiet (fail)
      go_wp2_with fail
      try go_ret
      rw [← HO.out]
      exact MeetOut.no (by rw [HLk.out, decide_eq_false HNm.out]; simp) HW.out.nu (Mv.drewN _ _ _)
  · have hk1 : (k1 != k2) = true := by simpa using hk
    have HK := hid hk
    clear hk
    go_quiet (fail)
    go_wp2_with fail
    try go_ret
    rw [← HO.out]
    exact MeetOut.no (by rw [HLk.out, decide_eq_false HK.out]; simp) HW.out.nu (Mv.drewN _ _ _)
end Go.Proofs.YtidihaecgmbhpabDoor
