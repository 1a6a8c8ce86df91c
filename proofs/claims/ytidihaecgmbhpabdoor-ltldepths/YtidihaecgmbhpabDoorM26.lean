/-
  VKid, VForm, VFormU, VFormB.
-/
import Derived.Deep.RegionHeld3
import Derived.Test.YtidihaecgmbhpabDoorM21
import Derived.Test.YtidihaecgmbhpabDoorM9
/-
  The writer's kid: parentheses where a kid's level is below.
-/
set_option linter.unusedSimpArgs false
set_option linter.unusedVariables false
namespace Go.Proofs.YtidihaecgmbhpabDoor
open Go.RowKit Q

/-- What the table says of a formula's kind. -/
def shp : F → Wd × Int × Int × Int × Int
  | .tt => ([116, 114, 117, 101], 0, 6, 0, 0) | .ff => ([102, 97, 108, 115, 101], 0, 6, 0, 0) | .pr _ => ([], 0, 6, 0, 0)
  | .u o _ => (up o, 1, 5, 0, 5)
  | .b o _ _ => ([32] ++ bw o ++ [32], 2, lv o, lft o, rgt o)
theorem shp_f (f : F) : ∃ k : Nat, f.t.kind = (k : Int) ∧ k < 15 ∧ shpT[k]? = some (shp f) := by
  cases f with
  | tt => exact ⟨1, rfl, by decide, rfl⟩
  | ff => exact ⟨2, rfl, by decide, rfl⟩
  | pr s => exact ⟨3, rfl, by decide, rfl⟩
  | u o a => cases o <;> first | exact ⟨4, rfl, by decide, rfl⟩ | exact ⟨5, rfl, by decide, rfl⟩ | exact ⟨6, rfl, by decide, rfl⟩ | exact ⟨7, rfl, by decide, rfl⟩
  | b o a c => cases o <;> first | exact ⟨8, rfl, by decide, rfl⟩ | exact ⟨9, rfl, by decide, rfl⟩ | exact ⟨10, rfl, by decide, rfl⟩ | exact ⟨11, rfl, by decide, rfl⟩ | exact ⟨12, rfl, by decide, rfl⟩ | exact ⟨13, rfl, by decide, rfl⟩ | exact ⟨14, rfl, by decide, rfl⟩
theorem shp_level (f : F) : (shp f).2.2.1 = (f.level : Int) := by cases f <;> rfl

/-- A formula behind a pointer, below B. -/
structure FAt (w : World) (B pb po : Nat) (f : F) : Prop where
  gl : Gl w
  b3 : 3 ≤ B
  lt : pb < B
  ex : ∃ c0 c1 c2, w.cell? ⟨pb, po, none⟩ = some c0 ∧ w.cell? ⟨pb, po + 1, none⟩ = some c1 ∧ w.cell? ⟨pb, po + 2, none⟩ = some c2 ∧ TIn w (fun b => b < B) c0 c1 c2 f.t
theorem FAt.mv {w w' : World} {B pb po : Nat} {f : F} (h : FAt w B pb po f) (hm : Mv (fun x => B ≤ x) w w') : FAt w' B pb po f := by
  obtain ⟨c0, c1, c2, h0, h1, h2, h3⟩ := h.ex
  have hb : ¬ B ≤ pb := by have := h.lt; omega
  exact ⟨h.gl.mv hm (fun x hx => Nat.le_trans h.b3 hx), h.b3, h.lt, c0, c1, c2, cell_mv hm h0 hb, cell_mv hm h1 hb, cell_mv hm h2 hb, h3.mv hm (fun x hx => by omega)⟩
theorem FAt.nu {w w' : World} {B pb po : Nat} {f : F} (h : FAt w B pb po f) (hm : Nu w w') : FAt w' B pb po f := h.mv (hm.mono (fun _ h => h.elim))
theorem FAt.kind {w : World} {B pb po : Nat} {f : F} (h : FAt w B pb po f) : w.cell? ⟨pb, po, none⟩ = some (.int .i64 f.t.kind) := by
  obtain ⟨c0, c1, c2, h0, h1, h2, h3⟩ := h.ex
  cases hf : f.t with
  | mk k n l =>
    rw [hf] at h3
    obtain ⟨_, _, _, e0, _⟩ := h3.form
    rw [h0, e0]
    rfl

def FormP (f : F) : Prop := ∀ (w : World) (B wb : Nat) (bs : Wd) (pb po : Nat), FAt w B pb po f → WrIs w B wb bs → WC 48 #[.pointer (some ⟨wb, 0, none⟩), .pointer (some ⟨pb, po, none⟩)] w B wb bs f.text

set_option maxHeartbeats 4000000 in
theorem kid_of {f : F} (hF : FormP f) (L : Nat) (hL : L ≤ 6) (w : World) (B wb : Nat) (bs : Wd) (pb po : Nat) (h : FAt w B pb po f) (hw : WrIs w B wb bs) :
    WC 64 #[.pointer (some ⟨wb, 0, none⟩), .pointer (some ⟨pb, po, none⟩), .int .i64 (L : Int)] w B wb bs (par (decide (f.level < L)) f.text) := by
  obtain ⟨k, hk, hk15, hs⟩ := shp_f f
  have k0 := h.kind
  rw [hk] at k0
  have c2 := (h.gl.shape k _ hs).2.2.1
  rw [shp_level] at c2
  obtain ⟨lv, hlv⟩ : ∃ lv : Nat, f.level = lv := ⟨_, rfl⟩
  rw [hlv] at c2 ⊢
  have HF := hid (fun W bs (hm : Mw B w W) (hw : WrIs W B wb bs) => hF W B wb bs pb po (h.mv hm.mv) hw)
  have HW := hid hw
  clear h hw hF hs hk hlv
  unfold WC
  by_cases hge : (lv : Int) ≥ (L : Int)
  · have e : decide (lv < L) = false := decide_eq_false (by omega)
    rw [e]
    simp only [par]
    have HC := hid (HF.out w bs (Mw.refl _ _) HW.out)
    by_cases hf : bs.length + f.text.length ≤ 4096
    · have HC1 := hid (HC.out.fit hf)
      go_enter Tryd.func64, Tryd.ntmps64
      go_wp2_with (go_at_call 48; refine Calls.mono HC1.out ?_; rintro e w1 ⟨rfl, hm, hw⟩; have HM := hid hm; have HW1 := hid hw; clear hm hw)
      refine bodyPost_ret (results_none rfl _ _ _) rfl ?_
      exact WPost.ok HM.out HW1.out
    · have HC1 := hid (HC.out.no (by omega))
      go_enter Tryd.func64, Tryd.ntmps64
      go_wp2_with (go_at_call 48; refine Calls.mono HC1.out ?_; rintro e w1 ⟨rfl, hm⟩; have HM := hid hm; clear hm)
      exact ⟨rfl, WPost.no HM.out (by first | omega | (simp; omega))⟩
  · have e : decide (lv < L) = true := decide_eq_true (by omega)
    rw [e]
    simp only [par]
    have HP := hid (put_any w B wb bs [40] HW.out (by decide))
    by_cases h1 : bs.length + 1 ≤ 4096
    · have HP1 := hid (HP.out.fit h1)
      by_cases h2 : bs.length + 1 + f.text.length ≤ 4096
      · by_cases h3 : bs.length + 1 + f.text.length + 1 ≤ 4096
        · go_enter Tryd.func64, Tryd.ntmps64
          go_wp2_with (first
            | (go_at_call 63; refine Calls.mono HP1.out ?_; rintro e w1 ⟨rfl, hm, hw⟩; have HM := hid hm; have HW1 := hid hw; clear hm hw HP1)
            | (go_at_call 48; refine Calls.mono ((HF.out w1 _ HM.out HW1.out).fit (by rw [List.length_append]; simp; omega)) ?_; rintro e w2 ⟨rfl, hm2, hw2⟩; have HM2 := hid hm2; have HW2 := hid hw2; clear hm2 hw2)
            | (go_at_call 63; refine Calls.mono ((put_any w2 B wb _ [41] HW2.out (by decide)).fit (by simp only [List.length_append]; simp; omega)) ?_; rintro e w3 ⟨rfl, hm3, hw3⟩; have HM3 := hid hm3; have HW3 := hid hw3; clear hm3 hw3))
          go_end0
          refine WPost.ok ((HM.out.trans HM2.out).trans HM3.out) ?_
          have := HW3.out
          simp only [List.append_assoc] at this ⊢
          exact this
        · go_enter Tryd.func64, Tryd.ntmps64
          go_wp2_with (first
            | (go_at_call 63; refine Calls.mono HP1.out ?_; rintro e w1 ⟨rfl, hm, hw⟩; have HM := hid hm; have HW1 := hid hw; clear hm hw HP1)
            | (go_at_call 48; refine Calls.mono ((HF.out w1 _ HM.out HW1.out).fit (by rw [List.length_append]; simp; omega)) ?_; rintro e w2 ⟨rfl, hm2, hw2⟩; have HM2 := hid hm2; have HW2 := hid hw2; clear hm2 hw2)
            | (go_at_call 63; refine Calls.mono ((put_any w2 B wb _ [41] HW2.out (by decide)).no (by simp only [List.length_append]; simp; omega)) ?_; rintro e w3 ⟨rfl, hm3⟩; have HM3 := hid hm3; clear hm3))
          exact ⟨rfl, WPost.no ((HM.out.trans HM2.out).trans HM3.out) (by simp; omega)⟩
      · go_enter Tryd.func64, Tryd.ntmps64
        go_wp2_with (first
          | (go_at_call 63; refine Calls.mono HP1.out ?_; rintro e w1 ⟨rfl, hm, hw⟩; have HM := hid hm; have HW1 := hid hw; clear hm hw HP1)
          | (go_at_call 48; refine Calls.mono ((HF.out w1 _ HM.out HW1.out).no (by rw [List.length_append]; simp; omega)) ?_; rintro e w2 ⟨rfl, hm2⟩; have HM2 := hid hm2; clear hm2))
        exact ⟨rfl, WPost.no (HM.out.trans HM2.out) (by simp; omega)⟩
    · have HP1 := hid (HP.out.no (by simp; omega))
      go_enter Tryd.func64, Tryd.ntmps64
      go_wp2_with (go_at_call 63; refine Calls.mono HP1.out ?_; rintro e w1 ⟨rfl, hm⟩; have HM := hid hm; clear hm HP1)
      exact ⟨rfl, WPost.no HM.out (by simp; omega)⟩

end Go.Proofs.YtidihaecgmbhpabDoor
/-
  The writer's formula.
-/
set_option linter.unusedSimpArgs false
set_option linter.unusedVariables false
namespace Go.Proofs.YtidihaecgmbhpabDoor
open Go.RowKit Q

theorem FAt.leaf {w : World} {B pb po : Nat} {f : F} (h : FAt w B pb po f) : w.cell? ⟨pb, po + 1, none⟩ = some (.string (strOfL f.t.name)) := by
  obtain ⟨c0, c1, c2, h0, h1, h2, h3⟩ := h.ex
  cases hf : f.t with
  | mk k n l =>
    rw [hf] at h3
    obtain ⟨_, _, _, _, e1, _⟩ := h3.form
    rw [h1, e1]
    rfl

def leafF : F → Bool | .tt => true | .ff => true | .pr _ => true | _ => false
theorem leaf_text {f : F} (h : leafF f = true) : (shp f).1 ++ f.t.name = f.text ∧ (shp f).2.1 = 0 := by
  cases f <;> first | exact ⟨rfl, rfl⟩ | cases h

set_option maxHeartbeats 4000000 in
theorem form_leaf {f : F} (hl : leafF f = true) (hn : f.ok = true) : FormP f := fun w B wb bs pb po h hw => by
  obtain ⟨ht, hk0⟩ := leaf_text hl
  obtain ⟨k, hk, hk15, hs⟩ := shp_f f
  have k0 := h.kind
  have k1 := h.leaf
  rw [hk] at k0
  obtain ⟨g0, g1, g2, g3, g4⟩ := h.gl.shape k _ hs
  rw [hk0] at g1
  have htl : f.text.length ≤ 140737488355328 := by
    have := text_len f hn
    cases f <;> first | (simp [F.size] at this; omega) | cases hl
  have HC := hid (fun W (hm : Nu w W) => put_any W B wb bs f.text (hw.nu hm) htl)
  have hse : (strOfL (shp f).1) ++ (strOfL f.t.name) = strOfL f.text := by rw [← ht]; simp [strOfL]; rfl
  have hbig : ¬ 9223372036854775807 < (strOfL (shp f).1).size + (strOfL f.t.name).size := by
    show ¬ 9223372036854775807 < (shp f).1.length + f.t.name.length
    rw [← ht, List.length_append] at htl
    omega
  obtain ⟨⟨st, sk, sl, slf, sr⟩, hsh⟩ : ∃ x, shp f = x := ⟨_, rfl⟩
  rw [hsh] at g0 g2 g3 g4 hse hbig
  simp only at g0 g2 g3 g4 hse hbig
  generalize f.t.name = nm at *
  clear hs hsh ht hk hl hn hk0 htl
  have HNo := hid (fun (hf : ¬ bs.length + f.text.length ≤ 4096) => (show 4096 < bs.length + f.text.length by omega))
  have HFit := hid (fun W hm hf => (HC.out W hm).fit hf)
  have HDie := hid (fun W hm hf => (HC.out W hm).no (HNo.out hf))
  unfold WC
  go_enter Tryd.func48, Tryd.ntmps48
  go_upto_region 3 with fail
  have hb1 := heap_alloc_new w (.cells #[.string (strOfL st), .int .i64 0, .int .i64 sl, .int .i64 slf, .int .i64 sr] 84)
  have hM1 : Nu w (w.alloc (.cells #[.string (strOfL st), .int .i64 0, .int .i64 sl, .int .i64 slf, .int .i64 sr] 84)) := Mv.alloc _ _ _
  generalize hW : World.alloc _ _ = W1 at hb1 hM1 ⊢
  clear hW
  have y0 : W1.cell? ⟨w.heap.size, 0, none⟩ = some (.string (strOfL st)) := by rw [cell_blk hb1]; rfl
  have HM1 := hid hM1
  replace k1 := cell_mv hM1 k1 id
  clear hb1 hM1 k0 g0 g1 g2 g3 g4 h hw
  by_cases hf : bs.length + f.text.length ≤ 4096
  · have HP := hid (HFit.out (W1.drew) (mv0 HM1.out (Mv.drew _ _)) hf)
    go_region_with (go_at_call 63; refine Calls.mono HP.out ?_; rintro e w2 ⟨rfl, hm2, hw2⟩; have HM2 := hid hm2; have HW2 := hid hw2; clear hm2 hw2)
    all_goals
      go_end0
      exact WPost.ok ((Mw.nu (mv0 HM1.out (Mv.drew _ _))).trans HM2.out) HW2.out
  · have HP := hid (HDie.out (W1.drew) (mv0 HM1.out (Mv.drew _ _)) hf)
    go_region_dies
    all_goals
      refine Calls.mono HP.out ?_
      rintro e w2 ⟨rfl, hm2⟩
      exact ⟨rfl, WPost.no ((Mw.nu (mv0 HM1.out (Mv.drew _ _))).trans hm2) (HNo.out hf)⟩

end Go.Proofs.YtidihaecgmbhpabDoor
/-
  The writer's formula: an operator of one kid.
-/
set_option linter.unusedSimpArgs false
set_option linter.unusedVariables false
namespace Go.Proofs.YtidihaecgmbhpabDoor
open Go.RowKit Q

theorem TIn.blk {w : World} {P : Nat → Prop} {c0 c1 c2 : Value} {t : T} (h : TIn w P c0 c1 c2 t) {b p cap n : Nat} (e : c2 = .slice (some ⟨b, p, none⟩) (n + 1) cap) : P b := by
  cases h with
  | leaf k n ao cap hk hn => injection e with _ e2 _; omega
  | node k n l b' o cap' C hk hn hl hP h0 hlt hr =>
    injection e with e1 _ _
    injection e1 with e1
    injection e1 with e1
    rw [← e1]
    exact hP

theorem FAt.kidU {w : World} {B pb po : Nat} {o : U} {a : F} (h : FAt w B pb po (.u o a)) : ∃ b p cap, w.cell? ⟨pb, po + 2, none⟩ = some (.slice (some ⟨b, p, none⟩) 1 cap) ∧ FAt w B b p a := by
  obtain ⟨c0, c1, c2, h0, h1, h2, h3⟩ := h.ex
  obtain ⟨b, p, cap, d0, d1, d2, _, _, rfl, e0, e1, e2, e3⟩ := kid_u h3
  exact ⟨b, p, cap, h2, h.gl, h.b3, h3.blk rfl, d0, d1, d2, e0, e1, e2, e3⟩
theorem FAt.kidB {w : World} {B pb po : Nat} {o : Q.B} {a c : F} (h : FAt w B pb po (.b o a c)) : ∃ b p cap, w.cell? ⟨pb, po + 2, none⟩ = some (.slice (some ⟨b, p, none⟩) 2 cap) ∧ FAt w B b p a ∧ FAt w B b (p + 3) c := by
  obtain ⟨c0, c1, c2, h0, h1, h2, h3⟩ := h.ex
  obtain ⟨b, p, cap, d0, d1, d2, f0, f1, f2, _, _, rfl, e0, e1, e2, e3, g0, g1, g2, g3⟩ := kid_b h3
  exact ⟨b, p, cap, h2, ⟨h.gl, h.b3, h3.blk rfl, d0, d1, d2, e0, e1, e2, e3⟩, ⟨h.gl, h.b3, h3.blk rfl, f0, f1, f2, g0, g1, g2, g3⟩⟩

set_option maxHeartbeats 4000000 in
theorem form_u {o : U} {a : F} (hF : FormP a) : FormP (.u o a) := fun w B wb bs pb po h hw => by
  obtain ⟨k, hk, hk15, hs⟩ := shp_f (.u o a)
  have k0 := h.kind
  rw [hk] at k0
  obtain ⟨g0, g1, g2, g3, g4⟩ := h.gl.shape k _ hs
  obtain ⟨kb, kp, kcap, k2, hfa⟩ := h.kidU
  simp only [shp] at g0 g1 g2 g3 g4
  obtain ⟨st, hst⟩ : ∃ st, up o = st := ⟨_, rfl⟩
  have hstl : st.length ≤ 140737488355328 := by rw [← hst]; cases o <;> decide
  have HT : Hid ((F.u o a).text = st ++ par (decide (a.level < 5)) a.text) := by show _ = _; rw [← hst]; rfl
  rw [hst] at g0
  rw [HT.out]
  generalize hps : par (decide (a.level < 5)) a.text = ps
  have HW := hid hw
  have HK : Hid (∀ W bs', Mw B w W → WrIs W B wb bs' → WC 64 #[.pointer (some ⟨wb, 0, none⟩), .pointer (some ⟨kb, kp, none⟩), .int .i64 5] W B wb bs' ps) := fun W bs' hm hw' => by
    have := kid_of hF 5 (by omega) W B wb bs' kb kp (hfa.mv hm.mv) hw'
    rw [hps] at this
    exact this
  have HLt : Hid (pb < B) := h.lt
  have HB : Hid (B ≤ wb) := hw.hB
  clear hs hk hst hps hfa h hw hF HT
  unfold WC
  go_enter Tryd.func48, Tryd.ntmps48
  go_upto_region 5 with fail
  have hb1 := heap_alloc_new w (.cells #[.string (strOfL st), .int .i64 1, .int .i64 5, .int .i64 0, .int .i64 5] 84)
  have hM1 : Nu w (w.alloc (.cells #[.string (strOfL st), .int .i64 1, .int .i64 5, .int .i64 0, .int .i64 5] 84)) := Mv.alloc _ _ _
  generalize hW : World.alloc _ _ = W1 at hb1 hM1 ⊢
  clear hW
  have y0 : W1.cell? ⟨w.heap.size, 0, none⟩ = some (.string (strOfL st)) := by rw [cell_blk hb1]; rfl
  have HP := hid (put_any W1 B wb bs st (HW.out.nu hM1) hstl)
  have HM1 := hid hM1
  have HB1 := hid hb1
  replace k2 := cell_mv hM1 k2 id
  clear hb1 hM1 k0 g0 g1 g2 g3 g4
  by_cases hf1 : bs.length + st.length ≤ 4096
  · have HP1 := hid (HP.out.fit hf1)
    clear HP
    go_upto_region 6 with (go_at_call 63; refine Calls.mono HP1.out ?_; rintro e w2 ⟨rfl, hm2, hw2⟩; have HM2 := hid hm2; have HW2 := hid hw2; have y4 : w2.cell? ⟨w.heap.size, 4, none⟩ = some (.int .i64 5) := (by rw [cell_blk (hm2.keep HB1.out (by decide) (by decide))]; rfl); have k3 := cell_mv hm2.mv k2 (by have := HLt.out; omega); clear hm2 hw2 y0 k2)
    by_cases hf : bs.length + st.length + ps.length ≤ 4096
    · have HK2 := hid ((HK.out w2.drew _ (((Mw.nu HM1.out).trans HM2.out).trans (Mw.nu (Mv.drew _ _))) (HW2.out.nu (Mv.drew _ _))).fit (by rw [List.length_append]; exact hf))
      go_region_with (go_at_call 64; refine Calls.mono HK2.out ?_; rintro e w3 ⟨rfl, hm3, hw3⟩; have HM3 := hid hm3; have HW3 := hid hw3; clear hm3 hw3)
      all_goals
        go_end0
        exact WPost.ok (((Mw.nu HM1.out).trans HM2.out).trans ((Mw.nu (Mv.drew _ _)).trans HM3.out)) (by rw [← List.append_assoc]; exact HW3.out)
    · have HK2 := hid ((HK.out w2.drew _ (((Mw.nu HM1.out).trans HM2.out).trans (Mw.nu (Mv.drew _ _))) (HW2.out.nu (Mv.drew _ _))).no (by rw [List.length_append]; omega))
      go_region_dies
      all_goals
        refine Calls.mono HK2.out ?_
        rintro e w3 ⟨rfl, hm3⟩
        exact ⟨rfl, WPost.no (((Mw.nu HM1.out).trans HM2.out).trans ((Mw.nu (Mv.drew _ _)).trans hm3)) (by rw [List.length_append]; omega)⟩
  · have HP1 := hid (HP.out.no (by omega))
    clear HP
    go_wp2_with (go_at_call 63; refine Calls.mono HP1.out ?_; rintro e w2 ⟨rfl, hm2⟩; have HM2 := hid hm2; clear hm2)
    exact ⟨rfl, WPost.no ((Mw.nu HM1.out).trans HM2.out) (by rw [List.length_append]; omega)⟩

end Go.Proofs.YtidihaecgmbhpabDoor
/-
  The writer's formula: an operator of two kids; all formulas.
-/
set_option linter.unusedSimpArgs false
set_option linter.unusedVariables false
namespace Go.Proofs.YtidihaecgmbhpabDoor
open Go.RowKit Q

set_option maxHeartbeats 8000000 in
theorem form_b {o : Q.B} {a c : F} (hF : FormP a) (hG : FormP c) : FormP (.b o a c) := fun w B wb bs pb po h hw => by
  obtain ⟨k, hk, hk15, hs⟩ := shp_f (.b o a c)
  have k0 := h.kind
  rw [hk] at k0
  obtain ⟨g0, g1, g2, g3, g4⟩ := h.gl.shape k _ hs
  obtain ⟨kb, kp, kcap, k2, hfa, hfc⟩ := h.kidB
  simp only [shp] at g0 g1 g2 g3 g4
  obtain ⟨st, hst⟩ : ∃ st, [32] ++ bw o ++ [32] = st := ⟨_, rfl⟩
  have hstl : st.length ≤ 140737488355328 := by rw [← hst]; cases o <;> decide
  obtain ⟨ps, hps⟩ : ∃ ps, par (decide (a.level < lft o)) a.text = ps := ⟨_, rfl⟩
  obtain ⟨qs, hqs⟩ : ∃ qs, par (decide (c.level < rgt o)) c.text = qs := ⟨_, rfl⟩
  have hT : (F.b o a c).text = ps ++ st ++ qs := by
    rw [← hst, ← hps, ← hqs]
    simp only [F.text, List.append_assoc]
  rw [hst] at g0
  rw [hT]
  have hlf : lft o ≤ 6 ∧ rgt o ≤ 6 := by cases o <;> decide
  have HW := hid hw
  obtain ⟨lo, hlo⟩ : ∃ lo, lft o = lo := ⟨_, rfl⟩
  obtain ⟨ro, hro⟩ : ∃ ro, rgt o = ro := ⟨_, rfl⟩
  obtain ⟨vo, hvo⟩ : ∃ vo, lv o = vo := ⟨_, rfl⟩
  rw [hlo] at hps hlf g3
  rw [hro] at hqs hlf g4
  rw [hvo] at g2
  have HK : Hid (∀ W bs', Mw B w W → WrIs W B wb bs' → WC 64 #[.pointer (some ⟨wb, 0, none⟩), .pointer (some ⟨kb, kp, none⟩), .int .i64 (lo : Int)] W B wb bs' ps) := fun W bs' hm hw' => by
    have := kid_of hF lo hlf.1 W B wb bs' kb kp (hfa.mv hm.mv) hw'
    rw [hps] at this
    exact this
  have HL : Hid (∀ W bs', Mw B w W → WrIs W B wb bs' → WC 64 #[.pointer (some ⟨wb, 0, none⟩), .pointer (some ⟨kb, kp + 3, none⟩), .int .i64 (ro : Int)] W B wb bs' qs) := fun W bs' hm hw' => by
    have := kid_of hG ro hlf.2 W B wb bs' kb (kp + 3) (hfc.mv hm.mv) hw'
    rw [hqs] at this
    exact this
  have HLt : Hid (pb < B) := h.lt
  clear hs hk hst hps hqs hfa hfc h hw hF hG hT hlf hlo hro hvo
  unfold WC
  go_enter Tryd.func48, Tryd.ntmps48
  go_upto_region 8 with fail
  have hb1 := heap_alloc_new w (.cells #[.string (strOfL st), .int .i64 2, .int .i64 (vo : Int), .int .i64 (lo : Int), .int .i64 (ro : Int)] 84)
  have hM1 : Nu w (w.alloc (.cells #[.string (strOfL st), .int .i64 2, .int .i64 (vo : Int), .int .i64 (lo : Int), .int .i64 (ro : Int)] 84)) := Mv.alloc _ _ _
  generalize hW : World.alloc _ _ = W1 at hb1 hM1 ⊢
  clear hW
  have y3 : W1.cell? ⟨w.heap.size, 3, none⟩ = some (.int .i64 (lo : Int)) := by rw [cell_blk hb1]; rfl
  have HM1 := hid (Mw.nu (B := B) (mv0 hM1 (Mv.drew _ W1)))
  have HW1 := hid (HW.out.nu (mv0 hM1 (Mv.drew _ W1)))
  have HB1 := hid ((Mv.drew (fun _ => False) W1).heap hb1 id)
  replace k2 := cell_mv hM1 k2 id
  have HK2 := hid (cell_mv (Mv.drew (fun _ => False) W1) k2 id)
  clear hb1 hM1 k0 g0 g1 g2 g3 g4
  by_cases hf1 : bs.length + ps.length ≤ 4096
  · have HP1 := hid ((HK.out _ _ HM1.out HW1.out).fit hf1)
    go_region_with (go_at_call 64; refine Calls.mono HP1.out ?_; rintro e w2 ⟨rfl, hm2, hw2⟩; have HM2 := hid hm2; have HW2 := hid hw2; clear hm2 hw2)
    all_goals
      have HB2 := hid (HM2.out.keep HB1.out (by decide) (by decide))
      have y0 : w2.cell? ⟨w.heap.size, 0, none⟩ = some (.string (strOfL st)) := by rw [cell_blk HB2.out]; rfl
      have k3 := cell_mv HM2.out.mv HK2.out (by have := HLt.out; omega)
      have HM2' := hid (HM1.out.trans HM2.out)
      clear k2 y3 HP1
      by_cases hf2 : bs.length + ps.length + st.length ≤ 4096
      · have HP2 := hid ((put_any w2 B wb _ st HW2.out hstl).fit (by rw [List.length_append]; exact hf2))
        go_upto_region 10 with (go_at_call 63; refine Calls.mono HP2.out ?_; rintro e w3 ⟨rfl, hm3, hw3⟩; have HM3 := hid (HM2'.out.trans hm3); have HW3 := hid hw3; have y4 : w3.cell? ⟨w.heap.size, 4, none⟩ = some (.int .i64 (ro : Int)) := (by rw [cell_blk (hm3.keep HB2.out (by decide) (by decide))]; rfl); have k4 := cell_mv hm3.mv k3 (by have := HLt.out; omega); clear hm3 hw3 y0 k3)
        by_cases hf3 : bs.length + ps.length + st.length + qs.length ≤ 4096
        · have HP3 := hid ((HL.out w3.drew _ (HM3.out.trans (Mw.nu (Mv.drew _ _))) (HW3.out.nu (Mv.drew _ _))).fit (by simp only [List.length_append]; exact hf3))
          go_region_with (go_at_call 64; refine Calls.mono HP3.out ?_; rintro e w4 ⟨rfl, hm4, hw4⟩; have HM4 := hid hm4; have HW4 := hid hw4; clear hm4 hw4)
          all_goals
            go_end0
            exact WPost.ok (HM3.out.trans ((Mw.nu (Mv.drew _ _)).trans HM4.out)) (by rw [← List.append_assoc, ← List.append_assoc]; exact HW4.out)
        · have HP3 := hid ((HL.out w3.drew _ (HM3.out.trans (Mw.nu (Mv.drew _ _))) (HW3.out.nu (Mv.drew _ _))).no (by simp only [List.length_append]; omega))
          go_region_dies
          all_goals
            refine Calls.mono HP3.out ?_
            rintro e w4 ⟨rfl, hm4⟩
            exact ⟨rfl, WPost.no (HM3.out.trans ((Mw.nu (Mv.drew _ _)).trans hm4)) (by simp only [List.length_append]; omega)⟩
      · have HP2 := hid ((put_any w2 B wb _ st HW2.out hstl).no (by rw [List.length_append]; omega))
        go_wp2_with (go_at_call 63; refine Calls.mono HP2.out ?_; rintro e w3 ⟨rfl, hm3⟩; have HM3 := hid (HM2'.out.trans hm3); clear hm3)
        exact ⟨rfl, WPost.no HM3.out (by simp only [List.length_append]; omega)⟩
  · have HP1 := hid ((HK.out _ _ HM1.out HW1.out).no (by omega))
    go_region_dies
    all_goals
      refine Calls.mono HP1.out ?_
      rintro e w2 ⟨rfl, hm2⟩
      exact ⟨rfl, WPost.no (HM1.out.trans hm2) (by simp only [List.length_append]; omega)⟩

theorem form_all (f : F) : f.ok = true → FormP f := by
  induction f with
  | tt => exact fun h => form_leaf rfl h
  | ff => exact fun h => form_leaf rfl h
  | pr s => exact fun h => form_leaf rfl h
  | u o a ih => exact fun h => form_u (ih h)
  | b o a c iha ihc =>
    intro h
    have h' : a.ok = true ∧ c.ok = true := by simpa [F.ok] using h
    exact form_b (iha h'.1) (ihc h'.2)

end Go.Proofs.YtidihaecgmbhpabDoor
