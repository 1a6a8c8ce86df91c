/-
  QPf, QPfU, QPfP, QRead.
-/
import Derived.Test.YtidihaecgmbhpaaDoorM16
/-
  The reference's prefixed: what it reads, word by word.
-/
set_option linter.unusedSimpArgs false
namespace Go.Proofs.YtidihaecgmbhpaaDoor
open Go.RowKit Q

theorem word_nu {w : World} {pb : Nat} {ao : Option Addr} {cap : Nat} {L : List (Wd × Nat)} {i : Nat} {bad : Int} (h : PIs w pb ao cap L i bad) (hi : i ≤ 1000000) : Looks 45 #[.pointer (some ⟨pb, 0, none⟩)] w (.string (strOfL (wordAt L i))) :=
  Calls.mono (word_any h hi) fun e w' ⟨h1, n, h2⟩ => ⟨h1, by rw [h2]; exact Mv.drewN _ _ _⟩

/-- The first steps: the result's block is made. -/
structure Pre (w W0 : World) : Prop where
  nu : Nu w W0
  sz : W0.heap.size = w.heap.size + 1
  r2 : W0.heap[w.heap.size]? = some (.cells #[.int .i64 0, .string ⟨#[]⟩, .slice none 0 0] 24 (0, 0))
theorem pre (w : World) : Pre w (w.alloc (.cells #[.int .i64 0, .string ⟨#[]⟩, .slice none 0 0] 24)) := ⟨Mv.alloc _ _ _, by simp, heap_alloc_new w _⟩

theorem TIn.node1 {W : World} {P : Nat → Prop} {d0 d1 d2 : Value} {t : F} (o : U) (ht : TIn W P d0 d1 d2 t.t) (hG : P W.heap.size) :
    TIn (W.alloc (.cells #[d0, d1, d2] 24)) P (.int .i64 o.kind) (.string ⟨#[]⟩) (.slice (some ⟨W.heap.size, 0, none⟩) 1 1) (F.u o t).t := by
  have hg := heap_alloc_new W (.cells #[d0, d1, d2] 24)
  have ht' := ht.nu (Mv.alloc (fun _ => False) W (.cells #[d0, d1, d2] 24))
  refine .node o.kind [] [t.t] W.heap.size 0 1 (fun _ => (d0, d1, d2)) (by cases o <;> decide) (by decide) (by simp) hG (fun i hi => ?_) ⟨_, _, hg⟩ (fun i v hv => ?_)
  · simp only [List.length_cons, List.length_nil] at hi
    have : i = 0 := by omega
    subst this
    exact ⟨by rw [cell_blk hg]; rfl, by rw [cell_blk hg]; rfl, by rw [cell_blk hg]; rfl⟩
  · have hi : i = 0 := by have := (List.getElem?_eq_some_iff.1 hv).1; simp at this; omega
    subst hi
    simp at hv; subst hv; exact ht'

set_option maxHeartbeats 4000000 in
theorem pf_tt {pb : Nat} {ao : Option Addr} {cap : Nat} {L : List (Wd × Nat)} {B f : Nat} (hE : PEnv pb ao B) (hL : L.length ≤ 100000) (i : Nat) (hil : i < L.length) (hw : wordAt L i = [116, 114, 117, 101]) (x : R) (hx : x = .ok (.tt, from' L (i + 1))) (w : World) (hB : B ≤ w.heap.size) (hP : PIs w pb ao cap L i (-1)) :
    Calls Tryd.prog 43 #[.pointer (some ⟨pb, 0, none⟩)] w fun e w' => Mv (· = pb) w w' ∧ Out w w' pb ao cap L (f + 1) e x := by
  obtain ⟨W0, hW0⟩ : ∃ W0, w.alloc (.cells #[.int .i64 0, .string ⟨#[]⟩, .slice none 0 0] 24) = W0 := ⟨_, rfl⟩
  have hpre := pre w
  rw [hW0] at hpre
  have HPR := hid hpre
  have HW := hid (word_nu (hP.nu hpre.nu) (by omega))
  have HP := hid hP
  have hpl := hE.pl
  have HPL : Hid (pb < B ∧ B ≤ w.heap.size) := ⟨hpl, hB⟩
  have h7 : Seven (strOfL (wordAt L i)) false false false false true false false := by rw [hw]; exact seven _
  obtain ⟨t1, t2, t3, t4, t5, t6, t7⟩ := h7
  generalize strOfL (wordAt L i) = S at *
  clear hpre hP hpl hB
  go_enter Tryd.func43, Tryd.ntmps43
  go_upto_region 1 with fail
  clear hW0
  go_wp2_with fail
  refine Calls.mono HW.out ?_
  rintro e w1 ⟨rfl, hm1⟩
  have HN1 := hid hm1
  have HP1 := hid ((HP.out.nu HPR.out.nu).nu hm1)
  have HR1 := hid (hm1.heap HPR.out.r2 id)
  clear hm1 HW
  have p1 := HP1.out.c1
  have q1 := HP1.out.fr 1
  go_upto_region 14 with fail
  clear p1 q1
  generalize hW2 : World.setCell _ _ _ = W2
  have hP2 : PIs W2 pb ao cap L (i + 1) (-1) := by rw [← hW2]; exact HP1.out.at1
  have hm2 : Mv (· = pb) w1 W2 := by rw [← hW2]; exact Mv.setCell w1 ⟨pb, 1, none⟩ _
  have hr2 := hm2.heap HR1.out (by have := HPL.out; show ¬ _ = pb; omega)
  have hM2 : Mv (· = pb) W0 W2 := (HN1.out.mono (fun _ h => h.elim)).trans hm2 (fun _ h => .inl h)
  have HP2 := hid hP2
  have HR2 := hid hr2
  have HM2 := hid hM2
  clear hW2 hP2 hm2 hr2 hM2
  obtain ⟨y0, y1, y2, g0, g1, g2⟩ := three HR2.out
  clear t1 t2 t3 t4 t5 t6 t7
  go_wp2_with fail
  refine bodyPost_ret (v := .agg #[.int .i64 1, .string ⟨#[]⟩, .slice none 0 0]) (by simp [results, Tryd.results43, go_sem, y0, y1, y2, g0, g1, g2]) rfl ?_
  exact ret_leaf hE HPL.out.2 HPR.out.nu HM2.out HP2.out (set3 HR2.out _ _ _) (t := .tt) (.leaf 1 [] none 0 (by decide) (by decide)) hil hx

set_option maxHeartbeats 4000000 in
theorem pf_ff {pb : Nat} {ao : Option Addr} {cap : Nat} {L : List (Wd × Nat)} {B f : Nat} (hE : PEnv pb ao B) (hL : L.length ≤ 100000) (i : Nat) (hil : i < L.length) (hw : wordAt L i = [102, 97, 108, 115, 101]) (x : R) (hx : x = .ok (.ff, from' L (i + 1))) (w : World) (hB : B ≤ w.heap.size) (hP : PIs w pb ao cap L i (-1)) :
    Calls Tryd.prog 43 #[.pointer (some ⟨pb, 0, none⟩)] w fun e w' => Mv (· = pb) w w' ∧ Out w w' pb ao cap L (f + 1) e x := by
  obtain ⟨W0, hW0⟩ : ∃ W0, w.alloc (.cells #[.int .i64 0, .string ⟨#[]⟩, .slice none 0 0] 24) = W0 := ⟨_, rfl⟩
  have hpre := pre w
  rw [hW0] at hpre
  have HPR := hid hpre
  have HW := hid (word_nu (hP.nu hpre.nu) (by omega))
  have HP := hid hP
  have hpl := hE.pl
  have HPL : Hid (pb < B ∧ B ≤ w.heap.size) := ⟨hpl, hB⟩
  have h7 : Seven (strOfL (wordAt L i)) false false false false false true false := by rw [hw]; exact seven _
  obtain ⟨t1, t2, t3, t4, t5, t6, t7⟩ := h7
  generalize strOfL (wordAt L i) = S at *
  clear hpre hP hpl hB
  go_enter Tryd.func43, Tryd.ntmps43
  go_upto_region 1 with fail
  clear hW0
  go_wp2_with fail
  refine Calls.mono HW.out ?_
  rintro e w1 ⟨rfl, hm1⟩
  have HN1 := hid hm1
  have HP1 := hid ((HP.out.nu HPR.out.nu).nu hm1)
  have HR1 := hid (hm1.heap HPR.out.r2 id)
  clear hm1 HW
  have p1 := HP1.out.c1
  have q1 := HP1.out.fr 1
  go_upto_region 17 with fail
  clear p1 q1
  generalize hW2 : World.setCell _ _ _ = W2
  have hP2 : PIs W2 pb ao cap L (i + 1) (-1) := by rw [← hW2]; exact HP1.out.at1
  have hm2 : Mv (· = pb) w1 W2 := by rw [← hW2]; exact Mv.setCell w1 ⟨pb, 1, none⟩ _
  have hr2 := hm2.heap HR1.out (by have := HPL.out; show ¬ _ = pb; omega)
  have hM2 : Mv (· = pb) W0 W2 := (HN1.out.mono (fun _ h => h.elim)).trans hm2 (fun _ h => .inl h)
  have HP2 := hid hP2
  have HR2 := hid hr2
  have HM2 := hid hM2
  clear hW2 hP2 hm2 hr2 hM2
  obtain ⟨y0, y1, y2, g0, g1, g2⟩ := three HR2.out
  clear t1 t2 t3 t4 t5 t6 t7
  go_wp2_with fail
  refine bodyPost_ret (v := .agg #[.int .i64 2, .string ⟨#[]⟩, .slice none 0 0]) (by simp [results, Tryd.results43, go_sem, y0, y1, y2, g0, g1, g2]) rfl ?_
  exact ret_leaf hE HPL.out.2 HPR.out.nu HM2.out HP2.out (set3 HR2.out _ _ _) (t := .ff) (.leaf 2 [] none 0 (by decide) (by decide)) hil hx

set_option maxHeartbeats 4000000 in
theorem pf_nm {pb : Nat} {ao : Option Addr} {cap : Nat} {L : List (Wd × Nat)} {B f : Nat} (hE : PEnv pb ao B) (hL : L.length ≤ 100000) (i : Nat) (hil : i < L.length) (hb : wordAt L i ∉ begins) (hn : isName (wordAt L i) = true) (x : R) (hx : x = .ok (.pr (wordAt L i), from' L (i + 1))) (w : World) (hB : B ≤ w.heap.size) (hP : PIs w pb ao cap L i (-1)) :
    Calls Tryd.prog 43 #[.pointer (some ⟨pb, 0, none⟩)] w fun e w' => Mv (· = pb) w w' ∧ Out w w' pb ao cap L (f + 1) e x := by
  obtain ⟨W0, hW0⟩ : ∃ W0, w.alloc (.cells #[.int .i64 0, .string ⟨#[]⟩, .slice none 0 0] 24) = W0 := ⟨_, rfl⟩
  have hpre := pre w
  rw [hW0] at hpre
  have HPR := hid hpre
  have HW := hid (word_nu (hP.nu hpre.nu) (by omega))
  have HP := hid hP
  have hpl := hE.pl
  have HPL : Hid (pb < B ∧ B ≤ w.heap.size) := ⟨hpl, hB⟩
  have h7 := seven_none hb
  obtain ⟨t1, t2, t3, t4, t5, t6, t7⟩ := h7
  have HI := hid (fun W => IsName_any (wordAt L i) (by have := (isName_parts hn).1; omega) W)
  rw [hn] at HI
  have HLN := hid (isName_parts hn).1
  clear hpre hP hpl hB
  go_enter Tryd.func43, Tryd.ntmps43
  go_upto_region 1 with fail
  clear hW0
  go_wp2_with fail
  refine Calls.mono HW.out ?_
  rintro e w1 ⟨rfl, hm1⟩
  have HN1 := hid hm1
  have HP1 := hid ((HP.out.nu HPR.out.nu).nu hm1)
  have HR1 := hid (hm1.heap HPR.out.r2 id)
  clear hm1 HW
  go_wp2_with fail
  refine Calls.mono (HI.out _) ?_
  rintro e w2 ⟨rfl, hm2⟩
  have HP1' := hid (HP1.out.nu hm2)
  have HR1' := hid (hm2.heap HR1.out id)
  have HN1' := hid (mv0 HN1.out hm2)
  clear hm2 HP1 HR1 HN1 t1 t2 t3 t4 t5 t6 t7
  have p1 := HP1'.out.c1
  have q1 := HP1'.out.fr 1
  go_upto_region 34 with fail
  clear p1 q1
  generalize hW2 : World.setCell _ _ _ = W2
  have hP2 : PIs W2 pb ao cap L (i + 1) (-1) := by rw [← hW2]; exact HP1'.out.at1
  have hm2 : Mv (· = pb) w2 W2 := by rw [← hW2]; exact Mv.setCell w2 ⟨pb, 1, none⟩ _
  have hr2 := hm2.heap HR1'.out (by have := HPL.out; show ¬ _ = pb; omega)
  have hM2 : Mv (· = pb) W0 W2 := (HN1'.out.mono (fun _ h => h.elim)).trans hm2 (fun _ h => .inl h)
  have HP2 := hid hP2
  have HR2 := hid hr2
  have HM2 := hid hM2
  clear hW2 hP2 hm2 hr2 hM2
  obtain ⟨y0, y1, y2, g0, g1, g2⟩ := three HR2.out
  go_wp2_with fail
  refine bodyPost_ret (v := .agg #[.int .i64 3, .string (strOfL (wordAt L i)), .slice none 0 0]) (by simp [results, Tryd.results43, go_sem, y0, y1, y2, g0, g1, g2]) rfl ?_
  exact ret_leaf hE HPL.out.2 HPR.out.nu HM2.out HP2.out (set3 HR2.out _ _ _) (t := .pr (wordAt L i)) (.leaf 3 (wordAt L i) none 0 (by decide) (by have := HLN.out; omega)) hil hx

set_option maxHeartbeats 4000000 in
theorem pf_no {pb : Nat} {ao : Option Addr} {cap : Nat} {L : List (Wd × Nat)} {B f : Nat} (hE : PEnv pb ao B) (hL : L.length ≤ 100000) (i : Nat) (hi : i ≤ L.length) (hb : wordAt L i ∉ begins) (hn : isName (wordAt L i) = false) (hlen : (wordAt L i).length ≤ 1000000) (x : R) (hx : x = .error (L.length - i)) (w : World) (hB : B ≤ w.heap.size) (hP : PIs w pb ao cap L i (-1)) :
    Calls Tryd.prog 43 #[.pointer (some ⟨pb, 0, none⟩)] w fun e w' => Mv (· = pb) w w' ∧ Out w w' pb ao cap L (f + 1) e x := by
  obtain ⟨W0, hW0⟩ : ∃ W0, w.alloc (.cells #[.int .i64 0, .string ⟨#[]⟩, .slice none 0 0] 24) = W0 := ⟨_, rfl⟩
  have hpre := pre w
  rw [hW0] at hpre
  have HPR := hid hpre
  have HW := hid (word_nu (hP.nu hpre.nu) (by omega))
  have HP := hid hP
  have hpl := hE.pl
  have HPL : Hid (pb < B ∧ B ≤ w.heap.size) := ⟨hpl, hB⟩
  have h7 := seven_none hb
  obtain ⟨t1, t2, t3, t4, t5, t6, t7⟩ := h7
  have HI := hid (fun W => IsName_any (wordAt L i) (by omega) W)
  rw [hn] at HI
  generalize strOfL (wordAt L i) = S at *
  clear hpre hP hpl hB
  go_enter Tryd.func43, Tryd.ntmps43
  go_upto_region 1 with fail
  clear hW0
  go_wp2_with fail
  refine Calls.mono HW.out ?_
  rintro e w1 ⟨rfl, hm1⟩
  have HN1 := hid hm1
  have HP1 := hid ((HP.out.nu HPR.out.nu).nu hm1)
  have HR1 := hid (hm1.heap HPR.out.r2 id)
  clear hm1 HW
  go_wp2_with fail
  refine Calls.mono (HI.out _) ?_
  rintro e w2 ⟨rfl, hm2⟩
  have HP1' := hid (HP1.out.nu hm2)
  have HR1' := hid (hm2.heap HR1.out id)
  have HN1' := hid (mv0 HN1.out hm2)
  have HFl := hid (fail_any HP1'.out)
  clear hm2 HP1 HR1 HN1 t1 t2 t3 t4 t5 t6 t7
  go_wp2_with fail
  refine Calls.mono HFl.out ?_
  rintro e w3 ⟨rfl, hw3⟩
  have hP3 : PIs w3 pb ao cap L i (i : Int) := by rw [hw3]; exact HP1'.out.bad _
  have hm3 : Mv (· = pb) w2 w3 := by rw [hw3]; exact Mv.setCell w2 ⟨pb, 2, none⟩ _
  have hr3 := hm3.heap HR1'.out (by have := HPL.out; show ¬ _ = pb; omega)
  have hM3 : Mv (· = pb) W0 w3 := (HN1'.out.mono (fun _ h => h.elim)).trans hm3 (fun _ h => .inl h)
  have HP3 := hid hP3
  have HR3 := hid hr3
  have HM3 := hid hM3
  clear hw3 hP3 hm3 hr3 hM3 HFl
  obtain ⟨y0, y1, y2, g0, g1, g2⟩ := three HR3.out
  go_wp2_with fail
  refine bodyPost_ret (v := .agg #[.int .i64 0, .string ⟨#[]⟩, .slice none 0 0]) (by simp [results, Tryd.results43, go_sem, y0, y1, y2, g0, g1, g2]) rfl ?_
  subst hx
  refine ret_bad hE HPL.out.2 HPR.out.nu HM3.out ?_ (set3 HR3.out _ _ _) ⟨_, _, _, _, _, rfl, rfl, rfl⟩ (j := i) (by omega)
  rw [show L.length - (L.length - i) = i by omega]
  exact HP3.out

end Go.Proofs.YtidihaecgmbhpaaDoor
/-
  The reference's prefixed: signs ahead of a formula; a formula in parentheses.
-/
set_option linter.unusedSimpArgs false
namespace Go.Proofs.YtidihaecgmbhpaaDoor
open Go.RowKit Q

/-- A sign and what stands behind it. -/
theorem ret_un {w W0 W2 w4 W5 W6 : World} {pb : Nat} {ao : Option Addr} {cap : Nat} {L : List (Wd × Nat)} {B f : Nat} {x y : R} {u0 u1 u2 : Value} (o : U) (hE : PEnv pb ao B) (hB : B ≤ w.heap.size) (hpre : Pre w W0) (h2 : Mv (· = pb) W0 W2) (h4 : Mv (· = pb) W2 w4) (h5 : Nu w4 W5)
    (h6 : Set3 W5 W6 w.heap.size (.int .i64 o.kind) (.string ⟨#[]⟩) (.slice (some ⟨W5.heap.size, 0, none⟩) 1 1) 24) (ho : Out W2 w4 pb ao cap L f (.returned (.agg #[u0, u1, u2])) y) (hx : bind1 (some y) (fun t r' => some (.ok (.u o t, r'))) = some x) :
    Mv (· = pb) w (W6.alloc (.cells #[u0, u1, u2] 24)) ∧ Out w (W6.alloc (.cells #[u0, u1, u2] 24)) pb ao cap L (f + 1) (.returned (.agg #[.int .i64 o.kind, .string ⟨#[]⟩, .slice (some ⟨W5.heap.size, 0, none⟩) 1 1])) x := by
  have hs0 := hpre.sz
  have hs2 := h2.size
  have hs4 := h4.size
  have hs5 := h5.size
  have hs6 := h6.sz
  have m4 : Mv (· = pb) w w4 := ((hpre.nu.mono (fun _ h => h.elim)).trans h2 (fun _ h => .inl h)).trans h4 (fun _ h => .inl h)
  have m5 : Mv (· = pb) w W5 := m4.trans h5 (fun _ h => h.elim)
  have m6 : Mv (· = pb) w W6 := m5.trans h6.mv (fun y hy => .inr (Nat.le_of_eq hy.symm))
  refine ⟨m6.trans (Mv.alloc (fun _ => False) _ _) (fun _ h => h.elim), ?_⟩
  have pfar : ∀ {j : Nat} {bad : Int}, PIs w4 pb ao cap L j bad → PIs (W6.alloc (.cells #[u0, u1, u2] 24)) pb ao cap L j bad := fun hp =>
    ((hp.nu h5).far hE h6.mv (fun y hy => by omega)).nu (Mv.alloc _ _ _)
  cases y with
  | ok p =>
    obtain ⟨t, r⟩ := p
    cases hx
    obtain ⟨e0, e1, e2, g1, g2, g4⟩ := ho
    have he : #[u0, u1, u2] = #[e0, e1, e2] := by injection g1 with h1; injection h1
    simp only [Array.mk.injEq, List.cons.injEq, and_true] at he
    obtain ⟨rfl, rfl, rfl⟩ := he
    have ht : TIn W6 (fun b => w.heap.size ≤ b) u0 u1 u2 t.t := ((g2.nu h5).mv h6.mv (fun y hy _ e => by omega)).mono (fun y hy _ => by omega)
    have hn := TIn.node1 o ht (by omega)
    rw [hs6] at hn
    exact ⟨_, _, _, rfl, hn, pfar g4⟩
  | error q =>
    cases hx
    obtain ⟨e0, e1, e2, j, _, _, g5, g4⟩ := ho
    exact ⟨_, _, _, j, rfl, ⟨_, _, _, _, _, rfl, rfl, rfl⟩, by omega, pfar g4⟩

set_option maxHeartbeats 4000000 in
theorem pf_not {pb : Nat} {ao : Option Addr} {cap : Nat} {L : List (Wd × Nat)} {B f : Nat} (hE : PEnv pb ao B) (hL : L.length ≤ 100000) (i : Nat) (ih : PfP pb ao cap L B f) (hil : i < L.length) (hw : wordAt L i = [33]) (y : R) (hy : pf f (from' L (i + 1)) = some y) (x : R) (hx : bind1 (some y) (fun t r' => some (.ok (.u .not t, r'))) = some x) (w : World) (hB : B ≤ w.heap.size) (hP : PIs w pb ao cap L i (-1)) :
    Calls Tryd.prog 43 #[.pointer (some ⟨pb, 0, none⟩)] w fun e w' => Mv (· = pb) w w' ∧ Out w w' pb ao cap L (f + 1) e x := by
  obtain ⟨W0, hW0⟩ : ∃ W0, w.alloc (.cells #[.int .i64 0, .string ⟨#[]⟩, .slice none 0 0] 24) = W0 := ⟨_, rfl⟩
  have hpre := pre w
  rw [hW0] at hpre
  have HPR := hid hpre
  have HW := hid (word_nu (hP.nu hpre.nu) (by omega))
  have HP := hid hP
  have hpl := hE.pl
  have HPL : Hid (pb < B ∧ B ≤ w.heap.size) := ⟨hpl, hB⟩
  have h7 : Seven (strOfL (wordAt L i)) true false false false false false false := by rw [hw]; exact seven _
  obtain ⟨t1, t2, t3, t4, t5, t6, t7⟩ := h7
  generalize strOfL (wordAt L i) = S at *
  clear hpre hP hpl hB
  go_enter Tryd.func43, Tryd.ntmps43
  go_upto_region 1 with fail
  clear hW0
  go_wp2_with fail
  refine Calls.mono HW.out ?_
  rintro e w1 ⟨rfl, hm1⟩
  have HN1 := hid hm1
  have HP1 := hid ((HP.out.nu HPR.out.nu).nu hm1)
  have HR1 := hid (hm1.heap HPR.out.r2 id)
  clear hm1 HW
  have p1 := HP1.out.c1
  have q1 := HP1.out.fr 1
  go_upto_region 27 with fail
  clear p1 q1
  generalize hW2 : World.setCell _ _ _ = W2
  have hP2 : PIs W2 pb ao cap L (i + 1) (-1) := by rw [← hW2]; exact HP1.out.at1
  have hm2 : Mv (· = pb) w1 W2 := by rw [← hW2]; exact Mv.setCell w1 ⟨pb, 1, none⟩ _
  have hr2 := hm2.heap HR1.out (by have := HPL.out; show ¬ _ = pb; omega)
  have hM2 : Mv (· = pb) W0 W2 := (HN1.out.mono (fun _ h => h.elim)).trans hm2 (fun _ h => .inl h)
  have HP2 := hid hP2
  have HR2 := hid hr2
  have HM2 := hid hM2
  clear hW2 hP2 hm2 hr2 hM2
  have HC := hid (ih (i + 1) hil y hy W2 (by have := HM2.out.size; have := HPR.out.sz; have := HPL.out; omega) HP2.out)
  clear t1 t2 t3 t4 t5 t6 t7
  go_wp2_with fail
  refine Calls.mono HC.out ?_
  rintro e w4 ⟨hm4, hout⟩
  obtain ⟨u0, u1, u2, rfl, ku, su, au, lu, cu, rfl, rfl, rfl⟩ := hout.form
  have hM4 : Mv (· = pb) W0 w4 := HM2.out.trans hm4 (fun _ h => .inl h)
  have hr4 := hm4.heap HR2.out (by have := HPL.out; show ¬ _ = pb; omega)
  have HM4 := hid hM4
  have HR4 := hid hr4
  have HO := hid hout
  have HM24 := hid hm4
  clear hm4 hout hM4 hr4 HC
  obtain ⟨W5, hW5⟩ : ∃ W5, w4.alloc (.cells #[.int .i64 ku, .string su, .slice au lu cu] 24) = W5 := ⟨_, rfl⟩
  go_upto_region 28 with fail
  have hn5 : Nu w4 W5 := by rw [← hW5]; exact Mv.alloc _ _ _
  have hs5 : W5.heap.size = w4.heap.size + 1 := by rw [← hW5]; simp
  have hb6 : W5.heap[w4.heap.size]? = some (.cells #[.int .i64 ku, .string su, .slice au lu cu] 24 (0, 0)) := by rw [← hW5]; exact heap_alloc_new w4 _
  have hr5 := hn5.heap HR4.out id
  obtain ⟨x0, x1, x2, _, _, _⟩ := three hb6
  obtain ⟨y0, y1, y2, g0, g1, g2⟩ := three hr5
  have HN5 := hid hn5
  have HS5 := hid hs5
  have HR5 := hid hr5
  have hlt2 : w.heap.size < W5.heap.size := lt_of_block hr5
  clear hW5 hn5 hs5 hb6 hr5
  go_wp2_with fail
  generalize hW7 : World.alloc _ _ = W7
  have h6 := set3 HR5.out (.int .i64 4) (.string ⟨#[]⟩) (.slice (some ⟨W5.heap.size, 0, none⟩) 1 1)
  have hfin := ret_un .not hE HPL.out.2 HPR.out HM2.out HM24.out HN5.out h6 HO.out hx
  have hr7 := (Mv.alloc (fun _ => False) _ (.cells #[.int .i64 ku, .string su, .slice au lu cu] 24)).heap h6.blk id
  rw [hW7] at hfin hr7
  obtain ⟨z0, z1, z2, _, _, _⟩ := three hr7
  refine bodyPost_ret (v := .agg #[.int .i64 4, .string ⟨#[]⟩, .slice (some ⟨W5.heap.size, 0, none⟩) 1 1]) (by simp [results, Tryd.results43, go_sem, z0, z1, z2]) rfl ?_
  exact hfin

set_option maxHeartbeats 4000000 in
theorem pf_next {pb : Nat} {ao : Option Addr} {cap : Nat} {L : List (Wd × Nat)} {B f : Nat} (hE : PEnv pb ao B) (hL : L.length ≤ 100000) (i : Nat) (ih : PfP pb ao cap L B f) (hil : i < L.length) (hw : wordAt L i = [88]) (y : R) (hy : pf f (from' L (i + 1)) = some y) (x : R) (hx : bind1 (some y) (fun t r' => some (.ok (.u .next t, r'))) = some x) (w : World) (hB : B ≤ w.heap.size) (hP : PIs w pb ao cap L i (-1)) :
    Calls Tryd.prog 43 #[.pointer (some ⟨pb, 0, none⟩)] w fun e w' => Mv (· = pb) w w' ∧ Out w w' pb ao cap L (f + 1) e x := by
  obtain ⟨W0, hW0⟩ : ∃ W0, w.alloc (.cells #[.int .i64 0, .string ⟨#[]⟩, .slice none 0 0] 24) = W0 := ⟨_, rfl⟩
  have hpre := pre w
  rw [hW0] at hpre
  have HPR := hid hpre
  have HW := hid (word_nu (hP.nu hpre.nu) (by omega))
  have HP := hid hP
  have hpl := hE.pl
  have HPL : Hid (pb < B ∧ B ≤ w.heap.size) := ⟨hpl, hB⟩
  have h7 : Seven (strOfL (wordAt L i)) false true false false false false false := by rw [hw]; exact seven _
  obtain ⟨t1, t2, t3, t4, t5, t6, t7⟩ := h7
  generalize strOfL (wordAt L i) = S at *
  clear hpre hP hpl hB
  go_enter Tryd.func43, Tryd.ntmps43
  go_upto_region 1 with fail
  clear hW0
  go_wp2_with fail
  refine Calls.mono HW.out ?_
  rintro e w1 ⟨rfl, hm1⟩
  have HN1 := hid hm1
  have HP1 := hid ((HP.out.nu HPR.out.nu).nu hm1)
  have HR1 := hid (hm1.heap HPR.out.r2 id)
  clear hm1 HW
  have p1 := HP1.out.c1
  have q1 := HP1.out.fr 1
  go_upto_region 27 with fail
  clear p1 q1
  generalize hW2 : World.setCell _ _ _ = W2
  have hP2 : PIs W2 pb ao cap L (i + 1) (-1) := by rw [← hW2]; exact HP1.out.at1
  have hm2 : Mv (· = pb) w1 W2 := by rw [← hW2]; exact Mv.setCell w1 ⟨pb, 1, none⟩ _
  have hr2 := hm2.heap HR1.out (by have := HPL.out; show ¬ _ = pb; omega)
  have hM2 : Mv (· = pb) W0 W2 := (HN1.out.mono (fun _ h => h.elim)).trans hm2 (fun _ h => .inl h)
  have HP2 := hid hP2
  have HR2 := hid hr2
  have HM2 := hid hM2
  clear hW2 hP2 hm2 hr2 hM2
  have HC := hid (ih (i + 1) hil y hy W2 (by have := HM2.out.size; have := HPR.out.sz; have := HPL.out; omega) HP2.out)
  clear t1 t2 t3 t4 t5 t6 t7
  go_wp2_with fail
  refine Calls.mono HC.out ?_
  rintro e w4 ⟨hm4, hout⟩
  obtain ⟨u0, u1, u2, rfl, ku, su, au, lu, cu, rfl, rfl, rfl⟩ := hout.form
  have hM4 : Mv (· = pb) W0 w4 := HM2.out.trans hm4 (fun _ h => .inl h)
  have hr4 := hm4.heap HR2.out (by have := HPL.out; show ¬ _ = pb; omega)
  have HM4 := hid hM4
  have HR4 := hid hr4
  have HO := hid hout
  have HM24 := hid hm4
  clear hm4 hout hM4 hr4 HC
  obtain ⟨W5, hW5⟩ : ∃ W5, w4.alloc (.cells #[.int .i64 ku, .string su, .slice au lu cu] 24) = W5 := ⟨_, rfl⟩
  go_upto_region 28 with fail
  have hn5 : Nu w4 W5 := by rw [← hW5]; exact Mv.alloc _ _ _
  have hs5 : W5.heap.size = w4.heap.size + 1 := by rw [← hW5]; simp
  have hb6 : W5.heap[w4.heap.size]? = some (.cells #[.int .i64 ku, .string su, .slice au lu cu] 24 (0, 0)) := by rw [← hW5]; exact heap_alloc_new w4 _
  have hr5 := hn5.heap HR4.out id
  obtain ⟨x0, x1, x2, _, _, _⟩ := three hb6
  obtain ⟨y0, y1, y2, g0, g1, g2⟩ := three hr5
  have HN5 := hid hn5
  have HS5 := hid hs5
  have HR5 := hid hr5
  have hlt2 : w.heap.size < W5.heap.size := lt_of_block hr5
  clear hW5 hn5 hs5 hb6 hr5
  go_wp2_with fail
  generalize hW7 : World.alloc _ _ = W7
  have h6 := set3 HR5.out (.int .i64 5) (.string ⟨#[]⟩) (.slice (some ⟨W5.heap.size, 0, none⟩) 1 1)
  have hfin := ret_un .next hE HPL.out.2 HPR.out HM2.out HM24.out HN5.out h6 HO.out hx
  have hr7 := (Mv.alloc (fun _ => False) _ (.cells #[.int .i64 ku, .string su, .slice au lu cu] 24)).heap h6.blk id
  rw [hW7] at hfin hr7
  obtain ⟨z0, z1, z2, _, _, _⟩ := three hr7
  refine bodyPost_ret (v := .agg #[.int .i64 5, .string ⟨#[]⟩, .slice (some ⟨W5.heap.size, 0, none⟩) 1 1]) (by simp [results, Tryd.results43, go_sem, z0, z1, z2]) rfl ?_
  exact hfin

set_option maxHeartbeats 4000000 in
theorem pf_always {pb : Nat} {ao : Option Addr} {cap : Nat} {L : List (Wd × Nat)} {B f : Nat} (hE : PEnv pb ao B) (hL : L.length ≤ 100000) (i : Nat) (ih : PfP pb ao cap L B f) (hil : i < L.length) (hw : wordAt L i = [91, 93]) (y : R) (hy : pf f (from' L (i + 1)) = some y) (x : R) (hx : bind1 (some y) (fun t r' => some (.ok (.u .always t, r'))) = some x) (w : World) (hB : B ≤ w.heap.size) (hP : PIs w pb ao cap L i (-1)) :
    Calls Tryd.prog 43 #[.pointer (some ⟨pb, 0, none⟩)] w fun e w' => Mv (· = pb) w w' ∧ Out w w' pb ao cap L (f + 1) e x := by
  obtain ⟨W0, hW0⟩ : ∃ W0, w.alloc (.cells #[.int .i64 0, .string ⟨#[]⟩, .slice none 0 0] 24) = W0 := ⟨_, rfl⟩
  have hpre := pre w
  rw [hW0] at hpre
  have HPR := hid hpre
  have HW := hid (word_nu (hP.nu hpre.nu) (by omega))
  have HP := hid hP
  have hpl := hE.pl
  have HPL : Hid (pb < B ∧ B ≤ w.heap.size) := ⟨hpl, hB⟩
  have h7 : Seven (strOfL (wordAt L i)) false false true false false false false := by rw [hw]; exact seven _
  obtain ⟨t1, t2, t3, t4, t5, t6, t7⟩ := h7
  generalize strOfL (wordAt L i) = S at *
  clear hpre hP hpl hB
  go_enter Tryd.func43, Tryd.ntmps43
  go_upto_region 1 with fail
  clear hW0
  go_wp2_with fail
  refine Calls.mono HW.out ?_
  rintro e w1 ⟨rfl, hm1⟩
  have HN1 := hid hm1
  have HP1 := hid ((HP.out.nu HPR.out.nu).nu hm1)
  have HR1 := hid (hm1.heap HPR.out.r2 id)
  clear hm1 HW
  have p1 := HP1.out.c1
  have q1 := HP1.out.fr 1
  go_upto_region 27 with fail
  clear p1 q1
  generalize hW2 : World.setCell _ _ _ = W2
  have hP2 : PIs W2 pb ao cap L (i + 1) (-1) := by rw [← hW2]; exact HP1.out.at1
  have hm2 : Mv (· = pb) w1 W2 := by rw [← hW2]; exact Mv.setCell w1 ⟨pb, 1, none⟩ _
  have hr2 := hm2.heap HR1.out (by have := HPL.out; show ¬ _ = pb; omega)
  have hM2 : Mv (· = pb) W0 W2 := (HN1.out.mono (fun _ h => h.elim)).trans hm2 (fun _ h => .inl h)
  have HP2 := hid hP2
  have HR2 := hid hr2
  have HM2 := hid hM2
  clear hW2 hP2 hm2 hr2 hM2
  have HC := hid (ih (i + 1) hil y hy W2 (by have := HM2.out.size; have := HPR.out.sz; have := HPL.out; omega) HP2.out)
  clear t1 t2 t3 t4 t5 t6 t7
  go_wp2_with fail
  refine Calls.mono HC.out ?_
  rintro e w4 ⟨hm4, hout⟩
  obtain ⟨u0, u1, u2, rfl, ku, su, au, lu, cu, rfl, rfl, rfl⟩ := hout.form
  have hM4 : Mv (· = pb) W0 w4 := HM2.out.trans hm4 (fun _ h => .inl h)
  have hr4 := hm4.heap HR2.out (by have := HPL.out; show ¬ _ = pb; omega)
  have HM4 := hid hM4
  have HR4 := hid hr4
  have HO := hid hout
  have HM24 := hid hm4
  clear hm4 hout hM4 hr4 HC
  obtain ⟨W5, hW5⟩ : ∃ W5, w4.alloc (.cells #[.int .i64 ku, .string su, .slice au lu cu] 24) = W5 := ⟨_, rfl⟩
  go_upto_region 28 with fail
  have hn5 : Nu w4 W5 := by rw [← hW5]; exact Mv.alloc _ _ _
  have hs5 : W5.heap.size = w4.heap.size + 1 := by rw [← hW5]; simp
  have hb6 : W5.heap[w4.heap.size]? = some (.cells #[.int .i64 ku, .string su, .slice au lu cu] 24 (0, 0)) := by rw [← hW5]; exact heap_alloc_new w4 _
  have hr5 := hn5.heap HR4.out id
  obtain ⟨x0, x1, x2, _, _, _⟩ := three hb6
  obtain ⟨y0, y1, y2, g0, g1, g2⟩ := three hr5
  have HN5 := hid hn5
  have HS5 := hid hs5
  have HR5 := hid hr5
  have hlt2 : w.heap.size < W5.heap.size := lt_of_block hr5
  clear hW5 hn5 hs5 hb6 hr5
  go_wp2_with fail
  generalize hW7 : World.alloc _ _ = W7
  have h6 := set3 HR5.out (.int .i64 6) (.string ⟨#[]⟩) (.slice (some ⟨W5.heap.size, 0, none⟩) 1 1)
  have hfin := ret_un .always hE HPL.out.2 HPR.out HM2.out HM24.out HN5.out h6 HO.out hx
  have hr7 := (Mv.alloc (fun _ => False) _ (.cells #[.int .i64 ku, .string su, .slice au lu cu] 24)).heap h6.blk id
  rw [hW7] at hfin hr7
  obtain ⟨z0, z1, z2, _, _, _⟩ := three hr7
  refine bodyPost_ret (v := .agg #[.int .i64 6, .string ⟨#[]⟩, .slice (some ⟨W5.heap.size, 0, none⟩) 1 1]) (by simp [results, Tryd.results43, go_sem, z0, z1, z2]) rfl ?_
  exact hfin

set_option maxHeartbeats 4000000 in
theorem pf_fin {pb : Nat} {ao : Option Addr} {cap : Nat} {L : List (Wd × Nat)} {B f : Nat} (hE : PEnv pb ao B) (hL : L.length ≤ 100000) (i : Nat) (ih : PfP pb ao cap L B f) (hil : i < L.length) (hw : wordAt L i = [60, 62]) (y : R) (hy : pf f (from' L (i + 1)) = some y) (x : R) (hx : bind1 (some y) (fun t r' => some (.ok (.u .fin t, r'))) = some x) (w : World) (hB : B ≤ w.heap.size) (hP : PIs w pb ao cap L i (-1)) :
    Calls Tryd.prog 43 #[.pointer (some ⟨pb, 0, none⟩)] w fun e w' => Mv (· = pb) w w' ∧ Out w w' pb ao cap L (f + 1) e x := by
  obtain ⟨W0, hW0⟩ : ∃ W0, w.alloc (.cells #[.int .i64 0, .string ⟨#[]⟩, .slice none 0 0] 24) = W0 := ⟨_, rfl⟩
  have hpre := pre w
  rw [hW0] at hpre
  have HPR := hid hpre
  have HW := hid (word_nu (hP.nu hpre.nu) (by omega))
  have HP := hid hP
  have hpl := hE.pl
  have HPL : Hid (pb < B ∧ B ≤ w.heap.size) := ⟨hpl, hB⟩
  have h7 : Seven (strOfL (wordAt L i)) false false false true false false false := by rw [hw]; exact seven _
  obtain ⟨t1, t2, t3, t4, t5, t6, t7⟩ := h7
  generalize strOfL (wordAt L i) = S at *
  clear hpre hP hpl hB
  go_enter Tryd.func43, Tryd.ntmps43
  go_upto_region 1 with fail
  clear hW0
  go_wp2_with fail
  refine Calls.mono HW.out ?_
  rintro e w1 ⟨rfl, hm1⟩
  have HN1 := hid hm1
  have HP1 := hid ((HP.out.nu HPR.out.nu).nu hm1)
  have HR1 := hid (hm1.heap HPR.out.r2 id)
  clear hm1 HW
  have p1 := HP1.out.c1
  have q1 := HP1.out.fr 1
  go_upto_region 27 with fail
  clear p1 q1
  generalize hW2 : World.setCell _ _ _ = W2
  have hP2 : PIs W2 pb ao cap L (i + 1) (-1) := by rw [← hW2]; exact HP1.out.at1
  have hm2 : Mv (· = pb) w1 W2 := by rw [← hW2]; exact Mv.setCell w1 ⟨pb, 1, none⟩ _
  have hr2 := hm2.heap HR1.out (by have := HPL.out; show ¬ _ = pb; omega)
  have hM2 : Mv (· = pb) W0 W2 := (HN1.out.mono (fun _ h => h.elim)).trans hm2 (fun _ h => .inl h)
  have HP2 := hid hP2
  have HR2 := hid hr2
  have HM2 := hid hM2
  clear hW2 hP2 hm2 hr2 hM2
  have HC := hid (ih (i + 1) hil y hy W2 (by have := HM2.out.size; have := HPR.out.sz; have := HPL.out; omega) HP2.out)
  clear t1 t2 t3 t4 t5 t6 t7
  go_wp2_with fail
  refine Calls.mono HC.out ?_
  rintro e w4 ⟨hm4, hout⟩
  obtain ⟨u0, u1, u2, rfl, ku, su, au, lu, cu, rfl, rfl, rfl⟩ := hout.form
  have hM4 : Mv (· = pb) W0 w4 := HM2.out.trans hm4 (fun _ h => .inl h)
  have hr4 := hm4.heap HR2.out (by have := HPL.out; show ¬ _ = pb; omega)
  have HM4 := hid hM4
  have HR4 := hid hr4
  have HO := hid hout
  have HM24 := hid hm4
  clear hm4 hout hM4 hr4 HC
  obtain ⟨W5, hW5⟩ : ∃ W5, w4.alloc (.cells #[.int .i64 ku, .string su, .slice au lu cu] 24) = W5 := ⟨_, rfl⟩
  go_upto_region 28 with fail
  have hn5 : Nu w4 W5 := by rw [← hW5]; exact Mv.alloc _ _ _
  have hs5 : W5.heap.size = w4.heap.size + 1 := by rw [← hW5]; simp
  have hb6 : W5.heap[w4.heap.size]? = some (.cells #[.int .i64 ku, .string su, .slice au lu cu] 24 (0, 0)) := by rw [← hW5]; exact heap_alloc_new w4 _
  have hr5 := hn5.heap HR4.out id
  obtain ⟨x0, x1, x2, _, _, _⟩ := three hb6
  obtain ⟨y0, y1, y2, g0, g1, g2⟩ := three hr5
  have HN5 := hid hn5
  have HS5 := hid hs5
  have HR5 := hid hr5
  have hlt2 : w.heap.size < W5.heap.size := lt_of_block hr5
  clear hW5 hn5 hs5 hb6 hr5
  go_wp2_with fail
  generalize hW7 : World.alloc _ _ = W7
  have h6 := set3 HR5.out (.int .i64 7) (.string ⟨#[]⟩) (.slice (some ⟨W5.heap.size, 0, none⟩) 1 1)
  have hfin := ret_un .fin hE HPL.out.2 HPR.out HM2.out HM24.out HN5.out h6 HO.out hx
  have hr7 := (Mv.alloc (fun _ => False) _ (.cells #[.int .i64 ku, .string su, .slice au lu cu] 24)).heap h6.blk id
  rw [hW7] at hfin hr7
  obtain ⟨z0, z1, z2, _, _, _⟩ := three hr7
  refine bodyPost_ret (v := .agg #[.int .i64 7, .string ⟨#[]⟩, .slice (some ⟨W5.heap.size, 0, none⟩) 1 1]) (by simp [results, Tryd.results43, go_sem, z0, z1, z2]) rfl ?_
  exact hfin

end Go.Proofs.YtidihaecgmbhpaaDoor
/-
  The reference's prefixed: a formula in parentheses.
-/
set_option linter.unusedSimpArgs false
namespace Go.Proofs.YtidihaecgmbhpaaDoor
open Go.RowKit Q

set_option maxHeartbeats 4000000 in
theorem pf_lp_err {pb : Nat} {ao : Option Addr} {cap : Nat} {L : List (Wd × Nat)} {B f : Nat} (hE : PEnv pb ao B) (hL : L.length ≤ 100000) (i : Nat) (ih : FmP pb ao cap L B f) (hil : i < L.length) (hw : wordAt L i = [40]) (q : Nat) (y : R) (hye : y = .error q) (hy : fm f 0 (from' L (i + 1)) = some y) (hf : f ≤ 1000000000) (x : R) (hx : x = .error q) (w : World) (hB : B ≤ w.heap.size) (hP : PIs w pb ao cap L i (-1)) :
    Calls Tryd.prog 43 #[.pointer (some ⟨pb, 0, none⟩)] w fun e w' => Mv (· = pb) w w' ∧ Out w w' pb ao cap L (f + 1) e x := by
  obtain ⟨W0, hW0⟩ : ∃ W0, w.alloc (.cells #[.int .i64 0, .string ⟨#[]⟩, .slice none 0 0] 24) = W0 := ⟨_, rfl⟩
  have hpre := pre w
  rw [hW0] at hpre
  have HPR := hid hpre
  have HW := hid (word_nu (hP.nu hpre.nu) (by omega))
  have HP := hid hP
  have hpl := hE.pl
  have HPL : Hid (pb < B ∧ B ≤ w.heap.size) := ⟨hpl, hB⟩
  have h7 : Seven (strOfL (wordAt L i)) false false false false false false true := by rw [hw]; exact seven _
  obtain ⟨t1, t2, t3, t4, t5, t6, t7⟩ := h7
  generalize strOfL (wordAt L i) = S at *
  clear hpre hP hpl hB
  go_enter Tryd.func43, Tryd.ntmps43
  go_upto_region 1 with fail
  clear hW0
  go_wp2_with fail
  refine Calls.mono HW.out ?_
  rintro e w1 ⟨rfl, hm1⟩
  have HN1 := hid hm1
  have HP1 := hid ((HP.out.nu HPR.out.nu).nu hm1)
  have HR1 := hid (hm1.heap HPR.out.r2 id)
  clear hm1 HW
  have p1 := HP1.out.c1
  have q1 := HP1.out.fr 1
  go_upto_region 20 with fail
  clear p1 q1
  generalize hW2 : World.setCell _ _ _ = W2
  have hP2 : PIs W2 pb ao cap L (i + 1) (-1) := by rw [← hW2]; exact HP1.out.at1
  have hm2 : Mv (· = pb) w1 W2 := by rw [← hW2]; exact Mv.setCell w1 ⟨pb, 1, none⟩ _
  have hr2 := hm2.heap HR1.out (by have := HPL.out; show ¬ _ = pb; omega)
  have hM2 : Mv (· = pb) W0 W2 := (HN1.out.mono (fun _ h => h.elim)).trans hm2 (fun _ h => .inl h)
  have HP2 := hid hP2
  have HR2 := hid hr2
  have HM2 := hid hM2
  clear hW2 hP2 hm2 hr2 hM2
  have HC := hid (ih 0 (by omega) (i + 1) hil y hy W2 (by have := HM2.out.size; have := HPR.out.sz; have := HPL.out; omega) HP2.out)
  clear t1 t2 t3 t4 t5 t6 t7
  go_wp2_with fail
  refine Calls.mono HC.out ?_
  rintro e w4 ⟨hm4, hout⟩
  obtain ⟨u0, u1, u2, rfl, ku, su, au, lu, cu, rfl, rfl, rfl⟩ := hout.form
  have hM4 : Mv (· = pb) W0 w4 := HM2.out.trans hm4 (fun _ h => .inl h)
  have hr4 := hm4.heap HR2.out (by have := HPL.out; show ¬ _ = pb; omega)
  have HM4 := hid hM4
  have HR4 := hid hr4
  have HO := hid hout
  have HSZ2 := hid HM2.out.size
  clear hm4 hout hM4 hr4 HC
  obtain ⟨W5, hW5⟩ : ∃ W5, w4.alloc (.cells #[.int .i64 ku, .string su, .slice au lu cu] 24) = W5 := ⟨_, rfl⟩
  go_upto_region 21 with fail
  have hn5 : Nu w4 W5 := by rw [← hW5]; exact Mv.alloc _ _ _
  have hb6 : W5.heap[w4.heap.size]? = some (.cells #[.int .i64 ku, .string su, .slice au lu cu] 24 (0, 0)) := by rw [← hW5]; exact heap_alloc_new w4 _
  have hr5 := hn5.heap HR4.out id
  have HN5 := hid hn5
  have HB6 := hid hb6
  have HR5 := hid hr5
  have HLT : Hid (pb < w4.heap.size ∧ w.heap.size < w4.heap.size) := ⟨by have := HM4.out.size; have := HPR.out.sz; have := HPL.out; show _ < _; omega, by have := HM4.out.size; have := HPR.out.sz; omega⟩
  clear hW5 hn5 hb6 hr5
  subst hye
  obtain ⟨v0, v1, v2, j, _, _, hj, hpe⟩ := HO.out
  obtain ⟨bd, hbd⟩ : ∃ bd : Nat, L.length - q = bd := ⟨_, rfl⟩
  rw [hbd] at hpe
  have HPE := hid (hpe.nu HN5.out)
  have hc2 := HPE.out.c2
  have hb0 : ¬ ((bd : Int) < 0) := by omega
  have hjb : (j : Int) ≤ 1000200000 := by omega
  have HBD := hid hbd
  clear hpe hbd
  have p1 := HPE.out.c1
  have q1 := HPE.out.fr 1
  go_upto_region 24 with fail
  clear p1 q1
  generalize hW7 : World.setCell _ _ _ = W7
  have hP7 : PIs W7 pb ao cap L (j + 1) (bd : Int) := by rw [← hW7]; exact HPE.out.at1
  have hm7 : Mv (· = pb) W5 W7 := by rw [← hW7]; exact Mv.setCell W5 ⟨pb, 1, none⟩ _
  have hb7 := hm7.heap HB6.out (by have := HLT.out; show ¬ _ = pb; omega)
  have hr7 := hm7.heap HR5.out (by have := HPL.out; show ¬ _ = pb; omega)
  have HP7 := hid hP7
  have HM7 := hid hm7
  have HR7 := hid hr7
  obtain ⟨x0, x1, x2, _, _, _⟩ := three hb7
  obtain ⟨y0, y1, y2, g0, g1, g2⟩ := three hr7
  clear hW7 hP7 hm7 hb7 hr7
  go_wp2_with fail
  refine bodyPost_ret (v := .agg #[.int .i64 ku, .string su, .slice au lu cu]) (by simp [results, Tryd.results43, go_sem, y0, y1, y2, g0, g1, g2]) rfl ?_
  subst hx
  refine ret_bad hE HPL.out.2 HPR.out.nu ((HM4.out.trans HN5.out (fun _ h => h.elim)).trans HM7.out (fun _ h => .inl h)) ?_ (set3 HR7.out _ _ _) ⟨_, _, _, _, _, rfl, rfl, rfl⟩ (j := j + 1) (by omega)
  rw [HBD.out]
  exact HP7.out

set_option maxHeartbeats 4000000 in
theorem pf_lp_ok {pb : Nat} {ao : Option Addr} {cap : Nat} {L : List (Wd × Nat)} {B f : Nat} (hE : PEnv pb ao B) (hL : L.length ≤ 100000) (i : Nat) (ih : FmP pb ao cap L B f) (hil : i < L.length) (hw : wordAt L i = [40]) (t : F) (r r2 : List Wd) (hr : r = [41] :: r2) (y : R) (hye : y = .ok (t, r)) (hy : fm f 0 (from' L (i + 1)) = some y) (x : R) (hx : x = .ok (t, r2)) (w : World) (hB : B ≤ w.heap.size) (hP : PIs w pb ao cap L i (-1)) :
    Calls Tryd.prog 43 #[.pointer (some ⟨pb, 0, none⟩)] w fun e w' => Mv (· = pb) w w' ∧ Out w w' pb ao cap L (f + 1) e x := by
  obtain ⟨W0, hW0⟩ : ∃ W0, w.alloc (.cells #[.int .i64 0, .string ⟨#[]⟩, .slice none 0 0] 24) = W0 := ⟨_, rfl⟩
  have hpre := pre w
  rw [hW0] at hpre
  have HPR := hid hpre
  have HW := hid (word_nu (hP.nu hpre.nu) (by omega))
  have HP := hid hP
  have hpl := hE.pl
  have HPL : Hid (pb < B ∧ B ≤ w.heap.size) := ⟨hpl, hB⟩
  have h7 : Seven (strOfL (wordAt L i)) false false false false false false true := by rw [hw]; exact seven _
  obtain ⟨t1, t2, t3, t4, t5, t6, t7⟩ := h7
  generalize strOfL (wordAt L i) = S at *
  clear hpre hP hpl hB
  go_enter Tryd.func43, Tryd.ntmps43
  go_upto_region 1 with fail
  clear hW0
  go_wp2_with fail
  refine Calls.mono HW.out ?_
  rintro e w1 ⟨rfl, hm1⟩
  have HN1 := hid hm1
  have HP1 := hid ((HP.out.nu HPR.out.nu).nu hm1)
  have HR1 := hid (hm1.heap HPR.out.r2 id)
  clear hm1 HW
  have p1 := HP1.out.c1
  have q1 := HP1.out.fr 1
  go_upto_region 20 with fail
  clear p1 q1
  generalize hW2 : World.setCell _ _ _ = W2
  have hP2 : PIs W2 pb ao cap L (i + 1) (-1) := by rw [← hW2]; exact HP1.out.at1
  have hm2 : Mv (· = pb) w1 W2 := by rw [← hW2]; exact Mv.setCell w1 ⟨pb, 1, none⟩ _
  have hr2 := hm2.heap HR1.out (by have := HPL.out; show ¬ _ = pb; omega)
  have hM2 : Mv (· = pb) W0 W2 := (HN1.out.mono (fun _ h => h.elim)).trans hm2 (fun _ h => .inl h)
  have HP2 := hid hP2
  have HR2 := hid hr2
  have HM2 := hid hM2
  clear hW2 hP2 hm2 hr2 hM2
  have HC := hid (ih 0 (by omega) (i + 1) hil y hy W2 (by have := HM2.out.size; have := HPR.out.sz; have := HPL.out; omega) HP2.out)
  clear t1 t2 t3 t4 t5 t6 t7
  go_wp2_with fail
  refine Calls.mono HC.out ?_
  rintro e w4 ⟨hm4, hout⟩
  obtain ⟨u0, u1, u2, rfl, ku, su, au, lu, cu, rfl, rfl, rfl⟩ := hout.form
  have hM4 : Mv (· = pb) W0 w4 := HM2.out.trans hm4 (fun _ h => .inl h)
  have hr4 := hm4.heap HR2.out (by have := HPL.out; show ¬ _ = pb; omega)
  have HM4 := hid hM4
  have HR4 := hid hr4
  have HO := hid hout
  have HSZ2 := hid HM2.out.size
  clear hm4 hout hM4 hr4 HC
  obtain ⟨W5, hW5⟩ : ∃ W5, w4.alloc (.cells #[.int .i64 ku, .string su, .slice au lu cu] 24) = W5 := ⟨_, rfl⟩
  go_upto_region 21 with fail
  have hn5 : Nu w4 W5 := by rw [← hW5]; exact Mv.alloc _ _ _
  have hb6 : W5.heap[w4.heap.size]? = some (.cells #[.int .i64 ku, .string su, .slice au lu cu] 24 (0, 0)) := by rw [← hW5]; exact heap_alloc_new w4 _
  have hr5 := hn5.heap HR4.out id
  have HN5 := hid hn5
  have HB6 := hid hb6
  have HR5 := hid hr5
  have HLT : Hid (pb < w4.heap.size ∧ w.heap.size < w4.heap.size) := ⟨by have := HM4.out.size; have := HPR.out.sz; have := HPL.out; show _ < _; omega, by have := HM4.out.size; have := HPR.out.sz; omega⟩
  clear hW5 hn5 hb6 hr5
  subst hye
  obtain ⟨v0, v1, v2, hv, htr, hpe⟩ := HO.out
  have he : #[Value.int .i64 ku, .string su, .slice au lu cu] = #[v0, v1, v2] := by injection hv with h1; injection h1
  simp only [Array.mk.injEq, List.cons.injEq, and_true] at he
  obtain ⟨rfl, rfl, rfl⟩ := he
  obtain ⟨j, hj⟩ : ∃ j, L.length - r.length = j := ⟨_, rfl⟩
  rw [hj] at hpe
  have HJ : Hid (L.length - r.length = j) := hj
  have HTR := hid htr
  have HPE := hid (hpe.nu HN5.out)
  have hc2 := HPE.out.c2
  have hjb : j ≤ 100000 := by omega
  have HW5 := hid (word_nu HPE.out (by omega))
  have HWJ : Hid (r = from' L j) := by show _ = _; rw [← hj]; exact from_suffix ((suffix f).1 _ _ _ _ hy)
  clear hv htr hpe hj
  have hlt : j < L.length := by
    have h1 := congrArg List.length HWJ.out
    rw [from_length, hr] at h1
    simp at h1
    omega
  have hwj : wordAt L j = [41] ∧ r2 = from' L (j + 1) := by
    have h1 := HWJ.out
    rw [from_cons hlt, hr] at h1
    injection h1 with h1 h2
    exact ⟨h1.symm, h2⟩
  rw [hwj.1] at HW5
  have HR2' := hid hwj.2
  have HLTJ := hid hlt
  have e1 : ((strOfL [41]).toList == [41]) = true := by rw [tl_eq]; rfl
  have e2 : ((strOfL [41]).toList != [41]) = false := by rw [bne, e1]; rfl
  generalize strOfL [41] = S at *
  clear hwj hlt
  go_wp2_with fail
  refine Calls.mono HW5.out ?_
  rintro e w6 ⟨rfl, hm6⟩
  have HP6 := hid (HPE.out.nu hm6)
  have HB66 := hid (hm6.heap HB6.out id)
  have HR6 := hid (hm6.heap HR5.out id)
  have HN6 := hid (mv0 HN5.out hm6)
  clear hm6 hc2 HW5
  have p1 := HP6.out.c1
  have q1 := HP6.out.fr 1
  go_upto_region 24 with fail
  clear p1 q1
  generalize hW7 : World.setCell _ _ _ = W7
  have hP7 : PIs W7 pb ao cap L (j + 1) (-1) := by rw [← hW7]; exact HP6.out.at1
  have hm7 : Mv (· = pb) w6 W7 := by rw [← hW7]; exact Mv.setCell w6 ⟨pb, 1, none⟩ _
  have hb7 := hm7.heap HB66.out (by have := HLT.out; show ¬ _ = pb; omega)
  have hr7 := hm7.heap HR6.out (by have := HPL.out; show ¬ _ = pb; omega)
  have HP7 := hid hP7
  have HM7 := hid hm7
  have HR7 := hid hr7
  obtain ⟨x0, x1, x2, _, _, _⟩ := three hb7
  obtain ⟨y0, y1, y2, g0, g1, g2⟩ := three hr7
  clear hW7 hP7 hm7 hb7 hr7
  go_wp2_with fail
  refine bodyPost_ret (v := .agg #[.int .i64 ku, .string su, .slice au lu cu]) (by simp [results, Tryd.results43, go_sem, y0, y1, y2, g0, g1, g2]) rfl ?_
  refine ret_leaf hE HPL.out.2 HPR.out.nu ((HM4.out.trans HN6.out (fun _ h => h.elim)).trans HM7.out (fun _ h => .inl h)) HP7.out (set3 HR7.out _ _ _) (t := t) ?_ HLTJ.out (by rw [hx, HR2'.out])
  exact ((HTR.out.nu HN6.out).mv HM7.out (fun y hy _ e => by have := HPL.out; have := HSZ2.out; have := HPR.out.sz; omega)).mono (fun y hy _ => by have := HSZ2.out; have := HPR.out.sz; omega)

set_option maxHeartbeats 4000000 in
theorem pf_lp_no {pb : Nat} {ao : Option Addr} {cap : Nat} {L : List (Wd × Nat)} {B f : Nat} (hE : PEnv pb ao B) (hL : L.length ≤ 100000) (i : Nat) (ih : FmP pb ao cap L B f) (hil : i < L.length) (hw : wordAt L i = [40]) (t : F) (r : List Wd) (hr : wordAt L (L.length - r.length) ≠ [41]) (y : R) (hye : y = .ok (t, r)) (hy : fm f 0 (from' L (i + 1)) = some y) (x : R) (hx : x = .error r.length) (w : World) (hB : B ≤ w.heap.size) (hP : PIs w pb ao cap L i (-1)) :
    Calls Tryd.prog 43 #[.pointer (some ⟨pb, 0, none⟩)] w fun e w' => Mv (· = pb) w w' ∧ Out w w' pb ao cap L (f + 1) e x := by
  obtain ⟨W0, hW0⟩ : ∃ W0, w.alloc (.cells #[.int .i64 0, .string ⟨#[]⟩, .slice none 0 0] 24) = W0 := ⟨_, rfl⟩
  have hpre := pre w
  rw [hW0] at hpre
  have HPR := hid hpre
  have HW := hid (word_nu (hP.nu hpre.nu) (by omega))
  have HP := hid hP
  have hpl := hE.pl
  have HPL : Hid (pb < B ∧ B ≤ w.heap.size) := ⟨hpl, hB⟩
  have h7 : Seven (strOfL (wordAt L i)) false false false false false false true := by rw [hw]; exact seven _
  obtain ⟨t1, t2, t3, t4, t5, t6, t7⟩ := h7
  generalize strOfL (wordAt L i) = S at *
  clear hpre hP hpl hB
  go_enter Tryd.func43, Tryd.ntmps43
  go_upto_region 1 with fail
  clear hW0
  go_wp2_with fail
  refine Calls.mono HW.out ?_
  rintro e w1 ⟨rfl, hm1⟩
  have HN1 := hid hm1
  have HP1 := hid ((HP.out.nu HPR.out.nu).nu hm1)
  have HR1 := hid (hm1.heap HPR.out.r2 id)
  clear hm1 HW
  have p1 := HP1.out.c1
  have q1 := HP1.out.fr 1
  go_upto_region 20 with fail
  clear p1 q1
  generalize hW2 : World.setCell _ _ _ = W2
  have hP2 : PIs W2 pb ao cap L (i + 1) (-1) := by rw [← hW2]; exact HP1.out.at1
  have hm2 : Mv (· = pb) w1 W2 := by rw [← hW2]; exact Mv.setCell w1 ⟨pb, 1, none⟩ _
  have hr2 := hm2.heap HR1.out (by have := HPL.out; show ¬ _ = pb; omega)
  have hM2 : Mv (· = pb) W0 W2 := (HN1.out.mono (fun _ h => h.elim)).trans hm2 (fun _ h => .inl h)
  have HP2 := hid hP2
  have HR2 := hid hr2
  have HM2 := hid hM2
  clear hW2 hP2 hm2 hr2 hM2
  have HC := hid (ih 0 (by omega) (i + 1) hil y hy W2 (by have := HM2.out.size; have := HPR.out.sz; have := HPL.out; omega) HP2.out)
  clear t1 t2 t3 t4 t5 t6 t7
  go_wp2_with fail
  refine Calls.mono HC.out ?_
  rintro e w4 ⟨hm4, hout⟩
  obtain ⟨u0, u1, u2, rfl, ku, su, au, lu, cu, rfl, rfl, rfl⟩ := hout.form
  have hM4 : Mv (· = pb) W0 w4 := HM2.out.trans hm4 (fun _ h => .inl h)
  have hr4 := hm4.heap HR2.out (by have := HPL.out; show ¬ _ = pb; omega)
  have HM4 := hid hM4
  have HR4 := hid hr4
  have HO := hid hout
  have HSZ2 := hid HM2.out.size
  clear hm4 hout hM4 hr4 HC
  obtain ⟨W5, hW5⟩ : ∃ W5, w4.alloc (.cells #[.int .i64 ku, .string su, .slice au lu cu] 24) = W5 := ⟨_, rfl⟩
  go_upto_region 21 with fail
  have hn5 : Nu w4 W5 := by rw [← hW5]; exact Mv.alloc _ _ _
  have hb6 : W5.heap[w4.heap.size]? = some (.cells #[.int .i64 ku, .string su, .slice au lu cu] 24 (0, 0)) := by rw [← hW5]; exact heap_alloc_new w4 _
  have hr5 := hn5.heap HR4.out id
  have HN5 := hid hn5
  have HB6 := hid hb6
  have HR5 := hid hr5
  have HLT : Hid (pb < w4.heap.size ∧ w.heap.size < w4.heap.size) := ⟨by have := HM4.out.size; have := HPR.out.sz; have := HPL.out; show _ < _; omega, by have := HM4.out.size; have := HPR.out.sz; omega⟩
  clear hW5 hn5 hb6 hr5
  subst hye
  obtain ⟨v0, v1, v2, hv, htr, hpe⟩ := HO.out
  have he : #[Value.int .i64 ku, .string su, .slice au lu cu] = #[v0, v1, v2] := by injection hv with h1; injection h1
  simp only [Array.mk.injEq, List.cons.injEq, and_true] at he
  obtain ⟨rfl, rfl, rfl⟩ := he
  obtain ⟨j, hj⟩ : ∃ j, L.length - r.length = j := ⟨_, rfl⟩
  rw [hj] at hpe
  have HJ : Hid (L.length - r.length = j) := hj
  have HTR := hid htr
  have HPE := hid (hpe.nu HN5.out)
  have hc2 := HPE.out.c2
  have hjb : j ≤ 100000 := by omega
  have HW5 := hid (word_nu HPE.out (by omega))
  have HWJ : Hid (r = from' L j) := by show _ = _; rw [← hj]; exact from_suffix ((suffix f).1 _ _ _ _ hy)
  clear hv htr hpe hj
  rw [HJ.out] at hr
  have e1 : ((strOfL (wordAt L j)).toList == [41]) = false := by rw [tl_eq]; exact decide_eq_false hr
  have e2 : ((strOfL (wordAt L j)).toList != [41]) = true := by rw [bne, e1]; rfl
  generalize strOfL (wordAt L j) = S at *
  clear hr
  go_wp2_with fail
  refine Calls.mono HW5.out ?_
  rintro e w6 ⟨rfl, hm6⟩
  have HP6 := hid (HPE.out.nu hm6)
  have HB66 := hid (hm6.heap HB6.out id)
  have HR6 := hid (hm6.heap HR5.out id)
  have HN6 := hid (mv0 HN5.out hm6)
  clear hm6 hc2 HW5
  have HFl := hid (fail_any HP6.out)
  go_wp2_with fail
  refine Calls.mono HFl.out ?_
  rintro e w3 ⟨rfl, hw3⟩
  have hP3 : PIs w3 pb ao cap L j (j : Int) := by rw [hw3]; exact HP6.out.bad _
  have hm3 : Mv (· = pb) w6 w3 := by rw [hw3]; exact Mv.setCell w6 ⟨pb, 2, none⟩ _
  have HB63 := hid (hm3.heap HB66.out (by have := HLT.out; show ¬ _ = pb; omega))
  have HR3 := hid (hm3.heap HR6.out (by have := HPL.out; show ¬ _ = pb; omega))
  have HP3 := hid hP3
  have HM3 := hid hm3
  clear hw3 hP3 hm3 HFl
  have p1 := HP3.out.c1
  have q1 := HP3.out.fr 1
  go_upto_region 24 with fail
  clear p1 q1
  generalize hW7 : World.setCell _ _ _ = W7
  have hP7 : PIs W7 pb ao cap L (j + 1) (j : Int) := by rw [← hW7]; exact HP3.out.at1
  have hm7 : Mv (· = pb) w3 W7 := by rw [← hW7]; exact Mv.setCell w3 ⟨pb, 1, none⟩ _
  have hb7 := hm7.heap HB63.out (by have := HLT.out; show ¬ _ = pb; omega)
  have hr7 := hm7.heap HR3.out (by have := HPL.out; show ¬ _ = pb; omega)
  have HP7 := hid hP7
  have HM7 := hid hm7
  have HR7 := hid hr7
  obtain ⟨x0, x1, x2, _, _, _⟩ := three hb7
  obtain ⟨y0, y1, y2, g0, g1, g2⟩ := three hr7
  clear hW7 hP7 hm7 hb7 hr7
  go_wp2_with fail
  refine bodyPost_ret (v := .agg #[.int .i64 ku, .string su, .slice au lu cu]) (by simp [results, Tryd.results43, go_sem, y0, y1, y2, g0, g1, g2]) rfl ?_
  subst hx
  refine ret_bad hE HPL.out.2 HPR.out.nu (((HM4.out.trans HN6.out (fun _ h => h.elim)).trans HM3.out (fun _ h => .inl h)).trans HM7.out (fun _ h => .inl h)) ?_ (set3 HR7.out _ _ _) ⟨_, _, _, _, _, rfl, rfl, rfl⟩ (j := j + 1) (by have := HJ.out; omega)
  rw [HJ.out]
  exact HP7.out

end Go.Proofs.YtidihaecgmbhpaaDoor
/-
  The reference's reader of formulas, whole: what its two functions read, for every fuel.
-/
set_option linter.unusedSimpArgs false
namespace Go.Proofs.YtidihaecgmbhpaaDoor
open Go.RowKit Q

theorem cls_rp_inv {w : Wd} (h : cls w = .rp) : w = [41] := by
  unfold cls at h
  replace h := if_other (by simp) h
  refine if_this h ?_
  refine if_ne (by simp) ?_
  refine if_ne (by simp) ?_
  refine if_ne (by simp) ?_
  refine if_ne (by simp) ?_
  refine if_ne (by simp) ?_
  refine if_ne (by simp) ?_
  refine if_ne (by simp) ?_
  refine if_ne (by simp) ?_
  refine if_ne (by simp) ?_
  refine if_ne (by simp) ?_
  refine if_ne (by simp) ?_
  refine if_ne (by simp) ?_
  refine if_ne (by simp) ?_
  exact if_end (by simp) (by simp)

theorem fm_all {pb : Nat} {ao : Option Addr} {cap : Nat} {L : List (Wd × Nat)} {B : Nat} (hE : PEnv pb ao B) (hL : L.length ≤ 100000) (hwl : ∀ x ∈ L, x.1.length ≤ 1000000) : ∀ f, f ≤ 1000000000 → FmP pb ao cap L B f ∧ PfP pb ao cap L B f
  | 0, _ => ⟨fun n _ i _ x hx => by simp [fm] at hx, fun i _ x hx => by simp [pf] at hx⟩
  | f + 1, hf => by
    obtain ⟨ih1, ih2⟩ := fm_all hE hL hwl f (by omega)
    refine ⟨fun n hn i hi x hx w hB hP => ?_, fun i hi x hx w hB hP => ?_⟩
    · by_cases h5 : n = 5
      · subst h5
        exact formula5 hE ih2 i hi x hx w hB hP
      · exact formulaN hE ih1 hL n (by omega) i hi x hx w hB hP
    · by_cases hil : i < L.length
      · rw [from_cons hil] at hx
        have hlen : (wordAt L i).length ≤ 1000000 := by
          unfold wordAt
          rw [List.getElem?_eq_getElem hil]
          exact hwl _ (List.getElem_mem hil)
        have hfl := from_length L (i + 1)
        by_cases hb : wordAt L i ∈ begins
        · simp only [begins, List.mem_cons, List.not_mem_nil, or_false] at hb
          rcases hb with hw | hw | hw | hw | hw | hw | hw
          · rw [hw, pf] at hx
            obtain ⟨y, hy⟩ : ∃ y, pf f (from' L (i + 1)) = some y := by
              rcases bind1_ok hx with ⟨e, h1, _⟩ | ⟨t, r, h1, _⟩
              · exact ⟨_, h1⟩
              · exact ⟨_, h1⟩
            exact pf_not hE hL i ih2 hil hw y hy x (by rw [← hy]; exact hx) w hB hP
          · rw [hw, pf] at hx
            obtain ⟨y, hy⟩ : ∃ y, pf f (from' L (i + 1)) = some y := by
              rcases bind1_ok hx with ⟨e, h1, _⟩ | ⟨t, r, h1, _⟩
              · exact ⟨_, h1⟩
              · exact ⟨_, h1⟩
            exact pf_next hE hL i ih2 hil hw y hy x (by rw [← hy]; exact hx) w hB hP
          · rw [hw, pf] at hx
            obtain ⟨y, hy⟩ : ∃ y, pf f (from' L (i + 1)) = some y := by
              rcases bind1_ok hx with ⟨e, h1, _⟩ | ⟨t, r, h1, _⟩
              · exact ⟨_, h1⟩
              · exact ⟨_, h1⟩
            exact pf_always hE hL i ih2 hil hw y hy x (by rw [← hy]; exact hx) w hB hP
          · rw [hw, pf] at hx
            obtain ⟨y, hy⟩ : ∃ y, pf f (from' L (i + 1)) = some y := by
              rcases bind1_ok hx with ⟨e, h1, _⟩ | ⟨t, r, h1, _⟩
              · exact ⟨_, h1⟩
              · exact ⟨_, h1⟩
            exact pf_fin hE hL i ih2 hil hw y hy x (by rw [← hy]; exact hx) w hB hP
          · rw [hw, pf] at hx
            exact pf_tt hE hL i hil hw x (by injection hx with hx; exact hx.symm) w hB hP
          · rw [hw, pf] at hx
            exact pf_ff hE hL i hil hw x (by injection hx with hx; exact hx.symm) w hB hP
          · rw [hw, pf] at hx
            rcases bind1_ok hx with ⟨q, h1, h2⟩ | ⟨t, r, h1, h2⟩
            · exact pf_lp_err hE hL i ih1 hil hw q _ rfl h1 (by omega) x h2 w hB hP
            · have hsf := from_suffix ((suffix f).1 _ _ _ _ h1)
              cases r with
              | nil =>
                refine pf_lp_no hE hL i ih1 hil hw t [] ?_ _ rfl h1 x (by injection h2 with h2; exact h2.symm) w hB hP
                have : wordAt L (L.length - ([] : List Wd).length) = [] := by unfold wordAt; rw [List.getElem?_eq_none (by simp)]
                rw [this]
                decide
              | cons z r2 =>
                simp only at h2
                split at h2
                · rename_i hc
                  rw [cls_rp_inv hc] at h1
                  exact pf_lp_ok hE hL i ih1 hil hw t _ r2 rfl _ rfl h1 x (by injection h2 with h2; exact h2.symm) w hB hP
                · rename_i hc
                  refine pf_lp_no hE hL i ih1 hil hw t (z :: r2) ?_ _ rfl h1 x (by injection h2 with h2; exact h2.symm) w hB hP
                  have hlt : L.length - (z :: r2).length < L.length := by have := congrArg List.length hsf; rw [from_length] at this; simp at this ⊢; omega
                  have hz : wordAt L (L.length - (z :: r2).length) = z := by
                    have := hsf
                    rw [from_cons hlt] at this
                    injection this with h1 _
                    exact h1.symm
                  rw [hz]
                  intro e
                  exact hc (by rw [e]; rfl)
        · cases hn : isName (wordAt L i) with
          | true =>
            rw [pf, cls_name hn] at hx
            exact pf_nm hE hL i hil hb hn x (by injection hx with hx; exact hx.symm) w hB hP
          | false =>
            rw [pf_other hb hn] at hx
            exact pf_no hE hL i hi hb hn hlen x (by injection hx with hx; rw [← hx, hfl]; congr 1; omega) w hB hP
      · have hie : i = L.length := by omega
        have hwz : wordAt L i = [] := by unfold wordAt; rw [List.getElem?_eq_none (by omega)]
        rw [from_nil (by omega), pf] at hx
        exact pf_no hE hL i hi (by rw [hwz]; decide) (by rw [hwz]; decide) (by rw [hwz]; simp) x (by injection hx with hx; rw [← hx, hie]; simp) w hB hP

end Go.Proofs.YtidihaecgmbhpaaDoor
