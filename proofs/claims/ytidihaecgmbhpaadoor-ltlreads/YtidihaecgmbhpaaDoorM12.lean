/-
  QText, QPrint, QCount, QCountU, QCountAnd, QCountOr, QCountImp, QCountIff, QCountTil, QCountRel, QCountWeak, QCountAll.
-/
import Derived.Deep.RegionHeld3
import Derived.Test.YtidihaecgmbhpaaDoorM9
/-
  A formula's text: what the reference's printing functions give.
-/
set_option linter.unusedSimpArgs false
namespace Go.Proofs.YtidihaecgmbhpaaDoor
open Go.RowKit Q

/-- The kids of a formula, in memory. -/
theorem kid_u {w : World} {P : Nat → Prop} {c0 c1 c2 : Value} {o : U} {a : F} (h : TIn w P c0 c1 c2 (F.u o a).t) :
    ∃ b p cap d0 d1 d2, c0 = .int .i64 o.kind ∧ c1 = .string (strOfL []) ∧ c2 = .slice (some ⟨b, p, none⟩) 1 cap ∧ w.cell? ⟨b, p, none⟩ = some d0 ∧ w.cell? ⟨b, p + 1, none⟩ = some d1 ∧ w.cell? ⟨b, p + 2, none⟩ = some d2 ∧ TIn w P d0 d1 d2 a.t := by
  obtain ⟨_, _, _, h0, h1, ao, cap, h2, hk⟩ := h.form
  obtain ⟨b, p, d0, d1, d2, rfl, e0, e1, e2, ht⟩ := hk 0 a.t rfl
  exact ⟨b, p, cap, d0, d1, d2, h0, h1, h2, by simpa using e0, by simpa using e1, by simpa using e2, ht⟩

theorem kid_b {w : World} {P : Nat → Prop} {c0 c1 c2 : Value} {o : B} {a c : F} (h : TIn w P c0 c1 c2 (F.b o a c).t) :
    ∃ b p cap d0 d1 d2 e0 e1 e2, c0 = .int .i64 o.kind ∧ c1 = .string (strOfL []) ∧ c2 = .slice (some ⟨b, p, none⟩) 2 cap ∧ w.cell? ⟨b, p, none⟩ = some d0 ∧ w.cell? ⟨b, p + 1, none⟩ = some d1 ∧ w.cell? ⟨b, p + 2, none⟩ = some d2 ∧ TIn w P d0 d1 d2 a.t ∧
      w.cell? ⟨b, p + 3, none⟩ = some e0 ∧ w.cell? ⟨b, p + 3 + 1, none⟩ = some e1 ∧ w.cell? ⟨b, p + 3 + 2, none⟩ = some e2 ∧ TIn w P e0 e1 e2 c.t := by
  obtain ⟨_, _, _, h0, h1, ao, cap, h2, hk⟩ := h.form
  obtain ⟨b, p, d0, d1, d2, rfl, x0, x1, x2, ht⟩ := hk 0 a.t rfl
  obtain ⟨b', p', e0, e1, e2, hb, y0, y1, y2, hu⟩ := hk 1 c.t rfl
  simp only [Option.some.injEq, Addr.mk.injEq] at hb
  obtain ⟨rfl, rfl, _⟩ := hb
  exact ⟨b, p, cap, d0, d1, d2, e0, e1, e2, h0, h1, h2, by simpa using x0, by simpa using x1, by simpa using x2, ht, y0, y1, y2, hu⟩

theorem text_len (f : F) : f.ok = true → f.text.length ≤ 40 * f.size := by
  have hp : ∀ (x : Bool) (s : Wd), (par x s).length ≤ s.length + 2 := fun x s => by cases x <;> simp [par]
  induction f with
  | tt => exact fun _ => by decide
  | ff => exact fun _ => by decide
  | pr s => intro h; have := (isName_parts h).1; simp only [F.text, F.size]; omega
  | u o a ih =>
    intro h
    have h1 := ih h
    have h2 := hp (decide (a.level < 5)) a.text
    have h3 : (up o).length ≤ 3 := by cases o <;> decide
    simp only [F.text, F.size, List.length_append]
    omega
  | b o a c iha ihc =>
    intro h
    have h' : a.ok = true ∧ c.ok = true := by simpa [F.ok] using h
    have h1 := iha h'.1
    have h1' := ihc h'.2
    have h2 := hp (decide (a.level < lft o)) a.text
    have h2' := hp (decide (c.level < rgt o)) c.text
    have h3 : (bw o).length ≤ 3 := by cases o <;> decide
    simp only [F.text, F.size, List.length_append, List.length_cons, List.length_nil]
    omega

theorem lvK_f (f : F) : lvK f.t.kind = f.level := by
  cases f with
  | tt => rfl
  | ff => rfl
  | pr s => rfl
  | u o a => cases o <;> rfl
  | b o a c => cases o <;> rfl

def TextP (f : F) : Prop := ∀ (w : World) (c0 c1 c2 : Value), TAt w c0 c1 c2 f.t → Looks 32 #[.agg #[c0, c1, c2]] w (.string (strOfL f.text))

theorem f_form {w : World} {P : Nat → Prop} {c0 c1 c2 : Value} {f : F} (h : TIn w P c0 c1 c2 f.t) : ∃ n ao m cap, c0 = .int .i64 f.t.kind ∧ c1 = .string (strOfL n) ∧ c2 = .slice ao m cap := by
  generalize f.t = t at *
  cases t with
  | mk k n l => obtain ⟨_, _, _, h0, h1, ao, cap, h2, _⟩ := h.form; exact ⟨n, ao, _, cap, h0, h1, h2⟩

set_option maxHeartbeats 2000000 in
theorem within_any (f : F) (hT : TextP f) (hlen : f.text.length ≤ 100000000) (least : Nat) (_ : least ≤ 5) (w : World) (c0 c1 c2 : Value) (h : TAt w c0 c1 c2 f.t) : Looks 61 #[.agg #[c0, c1, c2], .int .i64 (least : Int)] w (.string (strOfL (par (decide (f.level < least)) f.text))) := by
  have HT := hid (fun W (hW : Nu w W) => hT W c0 c1 c2 (h.nu hW))
  obtain ⟨n, ao, m, cap, rfl, rfl, rfl⟩ := f_form h
  have HL := hid (fun W => level_any f.t.kind W)
  rw [lvK_f] at HL
  have hlv : f.level ≤ 6 := by cases f with
    | b o a c => cases o <;> simp [F.level, lv]
    | _ => simp [F.level]
  generalize f.t.kind = k at *
  obtain ⟨lv, hlv'⟩ : ∃ lv, f.level = lv := ⟨_, rfl⟩
  rw [hlv'] at HL hlv ⊢
  obtain ⟨s, hs⟩ : ∃ s, f.text = s := ⟨_, rfl⟩
  rw [hs] at HT hlen ⊢
  clear h hT hlv' hs
  obtain ⟨W0, hW0⟩ : ∃ W0, w.alloc (.cells #[.int .i64 k, .string (strOfL n), .slice ao m cap] 24) = W0 := ⟨_, rfl⟩
  have hB := box3 w (.int .i64 k) (.string (strOfL n)) (.slice ao m cap) 24
  rw [hW0] at hB
  have HB := hid hB
  have hsz : (strOfL s).size ≤ 100000000 := by simpa [strOfL, ByteArray.size] using hlen
  unfold Looks
  go_enter Tryd.func61, Tryd.ntmps61
  go_upto_region 1 with fail
  clear hW0 hB
  have hc0 := HB.out.a0
  have hc1 := HB.out.a1
  have hc2 := HB.out.a2
  go_wp2_with fail
  refine Calls.mono (HT.out _ HB.out.mv) ?_
  rintro e w1 ⟨rfl, hm1⟩
  have HM1 := hid (mv0 HB.out.mv hm1)
  replace hc0 := cell_mv hm1 hc0 id
  clear hm1 hc1 hc2
  go_wp2_with fail
  refine Calls.mono (HL.out _) ?_
  rintro e w1 ⟨rfl, rfl⟩
  by_cases hlt : lv < least
  · have hlt' : (lv : Int) < (least : Int) := by omega
    go_wp2_with fail
    go_ret
    refine ⟨?_, HM1.out⟩
    rw [decide_eq_true hlt, show par true s = [40] ++ s ++ [41] from rfl, ← str_app, ← str_app]
    rfl
  · have hlt' : ¬ (lv : Int) < (least : Int) := by omega
    go_wp2_with fail
    go_ret
    refine ⟨?_, HM1.out⟩
    rw [decide_eq_false hlt]
    rfl

set_option maxHeartbeats 2000000 in
theorem text_u (o : U) (a : F) (hW : ∀ (w : World) (c0 c1 c2 : Value), TAt w c0 c1 c2 a.t → Looks 61 #[.agg #[c0, c1, c2], .int .i64 5] w (.string (strOfL (par (decide (a.level < 5)) a.text)))) (hlen : a.text.length ≤ 100000000) : TextP (.u o a) := by
  intro w c0 c1 c2 h
  obtain ⟨b, p, cap, d0, d1, d2, rfl, rfl, rfl, h0, h1, h2, ht⟩ := kid_u h
  have HW := hid (fun W (hm : Nu w W) => hW W d0 d1 d2 (ht.nu hm))
  have htx : (F.u o a).text = up o ++ par (decide (a.level < 5)) a.text := rfl
  have hpl : (par (decide (a.level < 5)) a.text).length ≤ 100000002 := by cases decide (a.level < 5) <;> simp [par] <;> omega
  rw [htx]
  generalize par (decide (a.level < 5)) a.text = s at *
  have hsz : (strOfL s).size ≤ 100000002 := by simpa [strOfL, ByteArray.size] using hpl
  clear ht hW h htx hpl hlen
  obtain ⟨W0, hW0⟩ : ∃ W0, w.alloc (.cells #[.int .i64 o.kind, .string (strOfL []), .slice (some ⟨b, p, none⟩) 1 cap] 24) = W0 := ⟨_, rfl⟩
  have hB := box3 w (.int .i64 o.kind) (.string (strOfL [])) (.slice (some ⟨b, p, none⟩) 1 cap) 24
  rw [hW0] at hB
  have HB := hid hB
  unfold Looks
  cases o
  all_goals
    simp only [U.kind] at hW0 hB HB ⊢
    go_enter Tryd.func32, Tryd.ntmps32
    go_upto_region 1 with fail
    clear hW0 hB
    have hc0 := HB.out.a0
    have hc2 := HB.out.a2
    have k0 := cell_mv HB.out.mv h0 id
    have k1 := cell_mv HB.out.mv h1 id
    have k2 := cell_mv HB.out.mv h2 id
    go_wp2_with fail
    refine Calls.mono (HW.out _ HB.out.mv) ?_
    rintro e w1 ⟨rfl, hm1⟩
    have HM1 := hid (mv0 HB.out.mv hm1)
    clear hm1 hc0 hc2 k0 k1 k2
    go_wp2_with fail
    go_ret
    refine ⟨?_, HM1.out⟩
    rw [← str_app]
    rfl

set_option maxHeartbeats 8000000 in
theorem text_b (o : B) (a c : F) (hA : ∀ (w : World) (c0 c1 c2 : Value), TAt w c0 c1 c2 a.t → Looks 61 #[.agg #[c0, c1, c2], .int .i64 (lft o : Int)] w (.string (strOfL (par (decide (a.level < lft o)) a.text))))
    (hC : ∀ (w : World) (c0 c1 c2 : Value), TAt w c0 c1 c2 c.t → Looks 61 #[.agg #[c0, c1, c2], .int .i64 (rgt o : Int)] w (.string (strOfL (par (decide (c.level < rgt o)) c.text)))) (hla : a.text.length ≤ 100000000) (hlc : c.text.length ≤ 100000000) : TextP (.b o a c) := by
  intro w c0 c1 c2 h
  obtain ⟨b, p, cap, d0, d1, d2, e0, e1, e2, rfl, rfl, rfl, h0, h1, h2, ht, g0, g1, g2, hu⟩ := kid_b h
  have HA := hid (fun W (hm : Nu w W) => hA W d0 d1 d2 (ht.nu hm))
  have HC := hid (fun W (hm : Nu w W) => hC W e0 e1 e2 (hu.nu hm))
  have htx : (F.b o a c).text = par (decide (a.level < lft o)) a.text ++ [32] ++ bw o ++ [32] ++ par (decide (c.level < rgt o)) c.text := rfl
  have hpa : (par (decide (a.level < lft o)) a.text).length ≤ 100000002 := by cases decide (a.level < lft o) <;> simp [par] <;> omega
  have hpc : (par (decide (c.level < rgt o)) c.text).length ≤ 100000002 := by cases decide (c.level < rgt o) <;> simp [par] <;> omega
  rw [htx]
  generalize par (decide (a.level < lft o)) a.text = s at *
  generalize par (decide (c.level < rgt o)) c.text = r at *
  have hsz : (strOfL s).size ≤ 100000002 := by simpa [strOfL, ByteArray.size] using hpa
  have hrz : (strOfL r).size ≤ 100000002 := by simpa [strOfL, ByteArray.size] using hpc
  clear ht hu hA hC h htx hpa hpc hla hlc
  obtain ⟨W0, hW0⟩ : ∃ W0, w.alloc (.cells #[.int .i64 o.kind, .string (strOfL []), .slice (some ⟨b, p, none⟩) 2 cap] 24) = W0 := ⟨_, rfl⟩
  have hB := box3 w (.int .i64 o.kind) (.string (strOfL [])) (.slice (some ⟨b, p, none⟩) 2 cap) 24
  rw [hW0] at hB
  have HB := hid hB
  unfold Looks
  have hbz : (bw o).length ≤ 3 := by cases o <;> decide
  have hs1 : Small (strOfL s) := by unfold Small; omega
  have hs2 : Small (strOfL s ++ ⟨#[32]⟩) := by unfold Small; rw [ByteArray.size_append']; show _ + 1 ≤ _; omega
  have hs3 : Small (strOfL s ++ ⟨#[32]⟩ ++ strOfL (bw o)) := by unfold Small; rw [ByteArray.size_append', ByteArray.size_append']; show _ + 1 + (bw o).length ≤ _; omega
  have hs4 : Small (strOfL s ++ ⟨#[32]⟩ ++ strOfL (bw o) ++ ⟨#[32]⟩) := by unfold Small; rw [ByteArray.size_append', ByteArray.size_append', ByteArray.size_append']; show _ + 1 + (bw o).length + 1 ≤ _; omega
  have hs5 : Small (strOfL r) := by unfold Small; omega
  have hl1 : Small ⟨#[32]⟩ := by unfold Small; decide
  have hl2 : Small (strOfL (bw o)) := by unfold Small; show (bw o).length ≤ _; omega
  clear hbz hsz hrz
  have HF : Hid (strOfL (s ++ [32] ++ bw o ++ [32] ++ r) = strOfL s ++ ⟨#[32]⟩ ++ strOfL (bw o) ++ ⟨#[32]⟩ ++ strOfL r) := by
    rw [← str_app, ← str_app, ← str_app, ← str_app]; exact rfl
  rw [HF.out]
  clear HF
  generalize strOfL s = S at *
  generalize strOfL r = R at *
  cases o
  all_goals
    simp only [B.kind, lft, rgt, bw, strOfL] at hW0 hB HB HA HC hs3 hs4 hl2 ⊢
    go_enter Tryd.func32, Tryd.ntmps32
    go_upto_region 1 with fail
    clear hW0 hB
    have hc0 := HB.out.a0
    have hc2 := HB.out.a2
    have k0 := cell_mv HB.out.mv h0 id
    have k1 := cell_mv HB.out.mv h1 id
    have k2 := cell_mv HB.out.mv h2 id
    have m0 := cell_mv HB.out.mv g0 id
    have m1 := cell_mv HB.out.mv g1 id
    have m2 := cell_mv HB.out.mv g2 id
    clear h0 h1 h2 g0 g1 g2
    go_wp2_with fail
    clear hc0
    go_region_held3 (fun w' => w'.cell? ⟨w.heap.size, 2, none⟩ = some (.slice (some ⟨b, p, none⟩) 2 cap) ∧ w'.cell? ⟨b, p, none⟩ = some d0 ∧ w'.cell? ⟨b, p + 1, none⟩ = some d1 ∧ w'.cell? ⟨b, p + 2, none⟩ = some d2 ∧
        w'.cell? ⟨b, p + 3, none⟩ = some e0 ∧ w'.cell? ⟨b, p + 3 + 1, none⟩ = some e1 ∧ w'.cell? ⟨b, p + 3 + 2, none⟩ = some e2)
      (first | go_keep | exact ⟨cell_mv HMz.out hc2 id, cell_mv HMz.out k0 id, cell_mv HMz.out k1 id, cell_mv HMz.out k2 id, cell_mv HMz.out m0 id, cell_mv HMz.out m1 id, cell_mv HMz.out m2 id⟩)
      (((first | (go_at_call_of 61 (Value.agg #[d0, d1, d2]); refine Calls.mono (HA.out _ (mv0 HB.out.mv (by first | exact Mv.drew _ _ | exact HMz.out | exact mv0 HMz.out (Mv.drew _ _) | exact Mv.refl _ _))) ?_) | (go_at_call_of 61 (Value.agg #[e0, e1, e2]); refine Calls.mono (HC.out _ (mv0 HB.out.mv (by first | exact Mv.drew _ _ | exact HMz.out | exact mv0 HMz.out (Mv.drew _ _) | exact Mv.refl _ _))) ?_)); rintro e wk ⟨rfl, hm⟩; have HMz : Hid (Nu W0 wk) := mv0 (by first | exact Mv.drew _ _ | exact HMz.out | exact mv0 HMz.out (Mv.drew _ _) | exact Mv.refl _ _) hm; clear hm))
    all_goals
      go_wp2_with fail
      go_ret
      exact ⟨rfl, mv0 HB.out.mv (by first | exact HMz.out | exact mv0 HMz.out (Mv.drew _ _))⟩

set_option maxHeartbeats 2000000 in
theorem text_tt : TextP .tt := by
  intro w c0 c1 c2 h
  obtain ⟨_, _, _, rfl, rfl, ao, cap, rfl, _⟩ := TIn.form (k := 1) (n := []) (l := []) h
  unfold Looks
  go_enter Tryd.func32, Tryd.ntmps32
  go_wp2_with fail
  go_ret
  exact ⟨rfl, Mv.alloc _ _ _⟩
set_option maxHeartbeats 2000000 in
theorem text_ff : TextP .ff := by
  intro w c0 c1 c2 h
  obtain ⟨_, _, _, rfl, rfl, ao, cap, rfl, _⟩ := TIn.form (k := 2) (n := []) (l := []) h
  unfold Looks
  go_enter Tryd.func32, Tryd.ntmps32
  go_wp2_with fail
  go_ret
  exact ⟨rfl, Mv.alloc _ _ _⟩
set_option maxHeartbeats 2000000 in
theorem text_pr (s : Wd) : TextP (.pr s) := by
  intro w c0 c1 c2 h
  obtain ⟨_, _, _, rfl, rfl, ao, cap, rfl, _⟩ := TIn.form (k := 3) (n := s) (l := []) h
  unfold Looks
  go_enter Tryd.func32, Tryd.ntmps32
  go_wp2_with fail
  go_ret
  exact ⟨rfl, Mv.alloc _ _ _⟩

theorem text_any (f : F) : f.ok = true → f.size ≤ 1000000 → TextP f := by
  induction f with
  | tt => exact fun _ _ => text_tt
  | ff => exact fun _ _ => text_ff
  | pr s => exact fun _ _ => text_pr s
  | u o a ih =>
    intro ho hs
    simp only [F.size] at hs
    have hl := text_len a ho
    exact text_u o a (within_any a (ih ho (by omega)) (by omega) 5 (by omega)) (by omega)
  | b o a c iha ihc =>
    intro ho hs
    have h' : a.ok = true ∧ c.ok = true := by simpa [F.ok] using ho
    simp only [F.size] at hs
    have hla := text_len a h'.1
    have hlc := text_len c h'.2
    exact text_b o a c (within_any a (iha h'.1 (by omega)) (by omega) _ (by cases o <;> decide)) (within_any c (ihc h'.2 (by omega)) (by omega) _ (by cases o <;> decide)) (by omega) (by omega)

end Go.Proofs.YtidihaecgmbhpaaDoor
/-
  A tree's text, or why it has none: what the reference's Print gives.
-/
set_option linter.unusedSimpArgs false
namespace Go.Proofs.YtidihaecgmbhpaaDoor
open Go.RowKit Q

theorem ret_pr {a b : Wd} {x y : Nat} (h : (a, x) = (b, y)) : Ending.returned (.tuple #[.string (strOfL a), .int .i64 (x : Int)]) = .returned (.tuple #[.string (strOfL b), .int .i64 (y : Int)]) := by
  cases h; rfl

set_option maxHeartbeats 4000000 in
/-- Of a tree that may not be. -/
theorem Print_no (t : T) (hs : t.size ≤ 1000000000) (hm : t.may = false) (w : World) (c0 c1 c2 : Value) (h : TAt w c0 c1 c2 t) : Looks 14 #[.agg #[c0, c1, c2]] w (.tuple #[.string (strOfL []), .int .i64 92]) := by
  have HC := hid (fun W (hW : Nu w W) => Check_any t hs W c0 c1 c2 (h.nu hW))
  have hchk : chk t = 92 := by unfold chk; rw [if_pos hm]
  rw [hchk] at HC
  have hform : ∃ k n ao m cap, c0 = .int .i64 k ∧ c1 = .string (strOfL n) ∧ c2 = .slice ao m cap := by
    cases t with
    | mk k n l => obtain ⟨_, _, _, h0, h1, ao, cap, h2, _⟩ := h.form; exact ⟨k, n, ao, _, cap, h0, h1, h2⟩
  obtain ⟨k, n, ao, m, cap, rfl, rfl, rfl⟩ := hform
  clear h hchk
  obtain ⟨W0, hW0⟩ : ∃ W0, w.alloc (.cells #[.int .i64 k, .string (strOfL n), .slice ao m cap] 24) = W0 := ⟨_, rfl⟩
  have hB := box3 w (.int .i64 k) (.string (strOfL n)) (.slice ao m cap) 24
  rw [hW0] at hB
  have HB := hid hB
  unfold Looks
  go_enter Tryd.func14, Tryd.ntmps14
  go_upto_region 1 with fail
  clear hW0 hB
  have hc0 := HB.out.a0
  have hc1 := HB.out.a1
  have hc2 := HB.out.a2
  go_wp2_with fail
  refine Calls.mono (HC.out _ HB.out.mv) ?_
  rintro e w1 ⟨rfl, hm1⟩
  have HM1 := hid (mv0 HB.out.mv hm1)
  clear hm1 hc0 hc1 hc2
  go_wp2_with fail
  go_ret2
  exact ⟨rfl, HM1.out⟩

set_option maxHeartbeats 4000000 in
/-- Of a formula. -/
theorem Print_any (f : F) (ho : f.ok = true) (hs : f.size ≤ 1000000000) (w : World) (c0 c1 c2 : Value) (h : TAt w c0 c1 c2 f.t) : Looks 14 #[.agg #[c0, c1, c2]] w (.tuple #[.string (strOfL (printF f).1), .int .i64 ((printF f).2 : Int)]) := by
  have HC := hid (fun W (hW : Nu w W) => Check_any f.t (by rw [f.size_t]; exact hs) W c0 c1 c2 (h.nu hW))
  have HS := hid (fun W (hW : Nu w W) => Size_any f.t W c0 c1 c2 (h.nu hW))
  have HT := hid (fun (h2 : f.size ≤ 1000000) W (hW : Nu w W) => text_any f ho h2 W c0 c1 c2 (h.nu hW))
  have hchk : chk f.t = if 100 < f.depth then 93 else 0 := by unfold chk; rw [f.may_t ho, f.depth_t]; rfl
  rw [hchk] at HC
  rw [f.size_t] at HS
  obtain ⟨n, ao, m, cap, rfl, rfl, rfl⟩ := f_form h
  generalize f.t.kind = k at *
  have HR : Hid (printF f = if 100 < f.depth then ([], 93) else if 4096 < f.size then ([], 2) else if 4096 < f.text.length then ([], 2) else (f.text, 0)) := rfl
  generalize printF f = r at *
  obtain ⟨r1, r2⟩ := r
  clear h hchk
  obtain ⟨W0, hW0⟩ : ∃ W0, w.alloc (.cells #[.int .i64 k, .string (strOfL n), .slice ao m cap] 24) = W0 := ⟨_, rfl⟩
  have hB := box3 w (.int .i64 k) (.string (strOfL n)) (.slice ao m cap) 24
  rw [hW0] at hB
  have HB := hid hB
  simp only
  unfold Looks
  by_cases hd : 100 < f.depth
  · rw [if_pos hd] at HC
    have HX : Hid ((([] : Wd), 93) = (r1, r2)) := by show _ = _; rw [HR.out, if_pos hd]
    clear HR hd HS HT
    go_enter Tryd.func14, Tryd.ntmps14
    go_upto_region 1 with fail
    clear hW0 hB
    have hc0 := HB.out.a0
    have hc1 := HB.out.a1
    have hc2 := HB.out.a2
    go_wp2_with fail
    refine Calls.mono (HC.out _ HB.out.mv) ?_
    rintro e w1 ⟨rfl, hm1⟩
    have HM1 := hid (mv0 HB.out.mv hm1)
    clear hm1 hc0 hc1 hc2
    go_wp2_with fail
    go_ret2
    exact ⟨ret_pr HX.out, HM1.out⟩
  rw [if_neg hd] at HC
  have HR2 : Hid ((r1, r2) = if 4096 < f.size then ([], 2) else if 4096 < f.text.length then ([], 2) else (f.text, 0)) := by show _ = _; rw [HR.out, if_neg hd]
  clear HR hd
  obtain ⟨z, hz⟩ : ∃ z, capN f.size = z := ⟨_, rfl⟩
  rw [hz] at HS
  have hz2 : z ≤ 20001 := by rw [← hz]; unfold capN; omega
  go_enter Tryd.func14, Tryd.ntmps14
  go_upto_region 1 with fail
  clear hW0 hB
  have hc0 := HB.out.a0
  have hc1 := HB.out.a1
  have hc2 := HB.out.a2
  go_wp2_with fail
  refine Calls.mono (HC.out _ HB.out.mv) ?_
  rintro e w1 ⟨rfl, hm1⟩
  have HM1 := hid (mv0 HB.out.mv hm1)
  replace hc0 := cell_mv hm1 hc0 id
  replace hc1 := cell_mv hm1 hc1 id
  replace hc2 := cell_mv hm1 hc2 id
  clear hm1
  go_wp2_with fail
  refine Calls.mono (HS.out _ HM1.out) ?_
  rintro e w2 ⟨rfl, hm2⟩
  have HM2 := hid (mv0 HM1.out hm2)
  replace hc0 := cell_mv hm2 hc0 id
  replace hc1 := cell_mv hm2 hc1 id
  replace hc2 := cell_mv hm2 hc2 id
  clear hm2
  by_cases hg : 4096 < f.size
  · have hg' : (4096 : Int) < (z : Int) := by rw [← hz]; unfold capN; omega
    have HX : Hid ((([] : Wd), 2) = (r1, r2)) := by show _ = _; rw [HR2.out, if_pos hg]
    clear HR2 HT hz hg
    go_wp2_with fail
    go_ret2
    exact ⟨ret_pr HX.out, HM2.out⟩
  have hg' : ¬ (4096 : Int) < (z : Int) := by rw [← hz]; unfold capN; omega
  have HR3 : Hid ((r1, r2) = if 4096 < f.text.length then ([], 2) else (f.text, 0)) := by show _ = _; rw [HR2.out, if_neg hg]
  have HT2 := hid (HT.out (by omega))
  have hl := text_len f ho
  obtain ⟨s, hs'⟩ : ∃ s, f.text = s := ⟨_, rfl⟩
  rw [hs'] at HT2 HR3 hl
  have hsz : (strOfL s).size = s.length := by simp [strOfL, ByteArray.size]
  have hsb : (strOfL s).size ≤ 200000 := by omega
  clear HR2 HT hz hg hl hs'
  go_wp2_with fail
  refine Calls.mono (HT2.out _ HM2.out) ?_
  rintro e w3 ⟨rfl, hm3⟩
  have HM3 := hid (mv0 HM2.out hm3)
  clear hm3 hc0 hc1 hc2
  by_cases hq : 4096 < s.length
  · have hq' : (4096 : Int) < ((strOfL s).size : Int) := by omega
    have HX : Hid ((([] : Wd), 2) = (r1, r2)) := by show _ = _; rw [HR3.out, if_pos hq]
    clear HR3 hq hsz
    go_wp2_with fail
    go_ret2
    exact ⟨ret_pr HX.out, HM3.out⟩
  · have hq' : ¬ (4096 : Int) < ((strOfL s).size : Int) := by omega
    have HX : Hid ((s, 0) = (r1, r2)) := by show _ = _; rw [HR3.out, if_neg hq]
    clear HR3 hq hsz
    go_wp2_with fail
    go_ret2
    exact ⟨ret_pr HX.out, HM3.out⟩

end Go.Proofs.YtidihaecgmbhpaaDoor
/-
  How many parts a formula's normal form has, and its opposite's: what the reference's count gives.
-/
set_option linter.unusedSimpArgs false
namespace Go.Proofs.YtidihaecgmbhpaaDoor
open Go.RowKit Q

def CountP (f : F) : Prop := ∀ (w : World) (c0 c1 c2 : Value), TAt w c0 c1 c2 f.t → Looks 34 #[.agg #[c0, c1, c2]] w (.tuple #[.int .i64 (capN (cnt true f) : Int), .int .i64 (capN (cnt false f) : Int)])

theorem ret_2 {a b c d : Nat} (h1 : a = c) (h2 : b = d) : Ending.returned (.tuple #[.int .i64 (a : Int), .int .i64 (b : Int)]) = .returned (.tuple #[.int .i64 (c : Int), .int .i64 (d : Int)]) := by rw [h1, h2]
theorem ret_2i {a b c d : Int} (h1 : a = c) (h2 : b = d) : Ending.returned (.tuple #[.int .i64 a, .int .i64 b]) = .returned (.tuple #[.int .i64 c, .int .i64 d]) := by rw [h1, h2]

set_option maxRecDepth 100000 in
set_option maxHeartbeats 4000000 in
theorem count_leaf (f : F) (hf : f = .tt ∨ f = .ff ∨ ∃ s, f = .pr s) : CountP f := by
  intro w c0 c1 c2 h
  unfold Looks
  rcases hf with rfl | rfl | ⟨s, rfl⟩
  · obtain ⟨_, _, _, rfl, rfl, ao, cap, rfl, _⟩ := TIn.form (k := 1) (n := []) (l := []) h
    go_enter Tryd.func34, Tryd.ntmps34
    go_wp2_with fail
    go_ret2
    exact ⟨rfl, Mv.alloc _ _ _⟩
  · obtain ⟨_, _, _, rfl, rfl, ao, cap, rfl, _⟩ := TIn.form (k := 2) (n := []) (l := []) h
    go_enter Tryd.func34, Tryd.ntmps34
    go_wp2_with fail
    go_ret2
    exact ⟨rfl, Mv.alloc _ _ _⟩
  · obtain ⟨_, _, _, rfl, rfl, ao, cap, rfl, _⟩ := TIn.form (k := 3) (n := s) (l := []) h
    go_enter Tryd.func34, Tryd.ntmps34
    go_wp2_with fail
    go_ret2
    exact ⟨rfl, Mv.alloc _ _ _⟩

end Go.Proofs.YtidihaecgmbhpaaDoor
/-
  How many parts a formula's normal form has: signs.
-/
set_option linter.unusedSimpArgs false
namespace Go.Proofs.YtidihaecgmbhpaaDoor
open Go.RowKit Q

set_option maxRecDepth 100000 in
set_option maxHeartbeats 8000000 in
theorem count_u (o : U) (a : F) (hA : CountP a) : CountP (.u o a) := by
  intro w c0 c1 c2 h
  obtain ⟨b, p, cap, d0, d1, d2, rfl, rfl, rfl, h0, h1, h2, ht⟩ := kid_u h
  have HA := hid (fun W (hm : Nu w W) => hA W d0 d1 d2 (ht.nu hm))
  obtain ⟨x, hx⟩ : ∃ x, capN (cnt true a) = x := ⟨_, rfl⟩
  obtain ⟨y, hy⟩ : ∃ y, capN (cnt false a) = y := ⟨_, rfl⟩
  have hx2 : x ≤ 20001 := by rw [← hx]; unfold capN; omega
  have hy2 : y ≤ 20001 := by rw [← hy]; unfold capN; omega
  rw [hx, hy] at HA
  have HXY : Hid (capN (cnt true a) = x ∧ capN (cnt false a) = y) := ⟨hx, hy⟩
  clear ht hA h hx hy
  obtain ⟨W0, hW0⟩ : ∃ W0, w.alloc (.cells #[.int .i64 o.kind, .string (strOfL []), .slice (some ⟨b, p, none⟩) 1 cap] 24) = W0 := ⟨_, rfl⟩
  have hB := box3 w (.int .i64 o.kind) (.string (strOfL [])) (.slice (some ⟨b, p, none⟩) 1 cap) 24
  rw [hW0] at hB
  have HB := hid hB
  obtain ⟨R1, hR1⟩ : ∃ R, capN (cnt true (.u o a)) = R := ⟨_, rfl⟩
  obtain ⟨R2, hR2⟩ : ∃ R, capN (cnt false (.u o a)) = R := ⟨_, rfl⟩
  rw [hR1, hR2]
  have HR : Hid (capN (cnt true (.u o a)) = R1 ∧ capN (cnt false (.u o a)) = R2) := ⟨hR1, hR2⟩
  clear hR1 hR2
  unfold Looks
  cases o
  all_goals
    simp only [U.kind] at hW0 hB HB ⊢
    go_enter Tryd.func34, Tryd.ntmps34
    go_upto_region 1 with fail
    clear hW0 hB
    have hc0 := HB.out.a0
    have hc2 := HB.out.a2
    have k0 := cell_mv HB.out.mv h0 id
    have k1 := cell_mv HB.out.mv h1 id
    have k2 := cell_mv HB.out.mv h2 id
    go_wp2_with fail
    refine Calls.mono (HA.out _ HB.out.mv) ?_
    rintro e w1 ⟨rfl, hm1⟩
    have HM1 := hid (mv0 HB.out.mv hm1)
    clear hm1 hc0 hc2 k0 k1 k2
    go_wp2_with fail
    all_goals
      go_ret2
      refine ⟨ret_2i ?_ ?_, HM1.out⟩
      · have h1 := HXY.out; have h2 := HR.out.1; simp only [cnt, capN, Bool.not_true, Bool.not_false] at h1 h2; omega
      · have h1 := HXY.out; have h2 := HR.out.2; simp only [cnt, capN, Bool.not_true, Bool.not_false] at h1 h2; omega

end Go.Proofs.YtidihaecgmbhpaaDoor
/-
  How many parts a formula's normal form has: and.
-/
set_option linter.unusedSimpArgs false
namespace Go.Proofs.YtidihaecgmbhpaaDoor
open Go.RowKit Q

set_option maxRecDepth 100000 in
set_option maxHeartbeats 16000000 in
theorem count_and (a c : F) (hA : CountP a) (hC : CountP c) : CountP (.b .and a c) := by
  intro w c0 c1 c2 h
  obtain ⟨b, p, cap, d0, d1, d2, e0, e1, e2, rfl, rfl, rfl, h0, h1, h2, ht, g0, g1, g2, hu⟩ := kid_b h
  have HA := hid (fun W (hm : Nu w W) => hA W d0 d1 d2 (ht.nu hm))
  have HC := hid (fun W (hm : Nu w W) => hC W e0 e1 e2 (hu.nu hm))
  obtain ⟨x, hx⟩ : ∃ x, capN (cnt true a) = x := ⟨_, rfl⟩
  obtain ⟨y, hy⟩ : ∃ y, capN (cnt false a) = y := ⟨_, rfl⟩
  obtain ⟨u, hu'⟩ : ∃ u, capN (cnt true c) = u := ⟨_, rfl⟩
  obtain ⟨v, hv⟩ : ∃ v, capN (cnt false c) = v := ⟨_, rfl⟩
  have hx2 : x ≤ 20001 := by rw [← hx]; unfold capN; omega
  have hy2 : y ≤ 20001 := by rw [← hy]; unfold capN; omega
  have hu2 : u ≤ 20001 := by rw [← hu']; unfold capN; omega
  have hv2 : v ≤ 20001 := by rw [← hv]; unfold capN; omega
  rw [hx, hy] at HA
  rw [hu', hv] at HC
  have HXY : Hid ((capN (cnt true a) = x ∧ capN (cnt false a) = y) ∧ capN (cnt true c) = u ∧ capN (cnt false c) = v) := ⟨⟨hx, hy⟩, hu', hv⟩
  clear ht hu hA hC h hx hy hu' hv
  obtain ⟨W0, hW0⟩ : ∃ W0, w.alloc (.cells #[.int .i64 (B.kind .and), .string (strOfL []), .slice (some ⟨b, p, none⟩) 2 cap] 24) = W0 := ⟨_, rfl⟩
  have hB := box3 w (.int .i64 (B.kind .and)) (.string (strOfL [])) (.slice (some ⟨b, p, none⟩) 2 cap) 24
  rw [hW0] at hB
  have HB := hid hB
  obtain ⟨R1, hR1⟩ : ∃ R, capN (cnt true (.b .and a c)) = R := ⟨_, rfl⟩
  obtain ⟨R2, hR2⟩ : ∃ R, capN (cnt false (.b .and a c)) = R := ⟨_, rfl⟩
  rw [hR1, hR2]
  have HR : Hid (capN (cnt true (.b .and a c)) = R1 ∧ capN (cnt false (.b .and a c)) = R2) := ⟨hR1, hR2⟩
  clear hR1 hR2
  unfold Looks
  all_goals
    simp only [B.kind] at hW0 hB HB ⊢
    go_enter Tryd.func34, Tryd.ntmps34
    go_upto_region 1 with fail
    clear hW0 hB
    have hc0 := HB.out.a0
    have hc2 := HB.out.a2
    have k0 := cell_mv HB.out.mv h0 id
    have k1 := cell_mv HB.out.mv h1 id
    have k2 := cell_mv HB.out.mv h2 id
    go_wp2_with fail
    refine Calls.mono (HA.out _ HB.out.mv) ?_
    rintro e w1 ⟨rfl, hm1⟩
    have HM1 := hid (mv0 HB.out.mv hm1)
    replace hc2 := cell_mv hm1 hc2 id
    clear hm1 hc0 k0 k1 k2
    have k0 := cell_mv HM1.out g0 id
    have k1 := cell_mv HM1.out g1 id
    have k2 := cell_mv HM1.out g2 id
    go_wp2_with fail
    refine Calls.mono (HC.out _ HM1.out) ?_
    rintro e w2 ⟨rfl, hm2⟩
    have HM2 := hid (mv0 HM1.out hm2)
    clear hm2 hc2 k0 k1 k2
    go_wp2_with fail
    all_goals
      go_ret2
      refine ⟨ret_2i ?_ ?_, HM2.out⟩
      · have h1 := HXY.out; have h2 := HR.out.1; simp only [cnt, capN, Bool.not_true, Bool.not_false] at h1 h2; omega
      · have h1 := HXY.out; have h2 := HR.out.2; simp only [cnt, capN, Bool.not_true, Bool.not_false] at h1 h2; omega

end Go.Proofs.YtidihaecgmbhpaaDoor
/-
  How many parts a formula's normal form has: or.
-/
set_option linter.unusedSimpArgs false
namespace Go.Proofs.YtidihaecgmbhpaaDoor
open Go.RowKit Q

set_option maxRecDepth 100000 in
set_option maxHeartbeats 16000000 in
theorem count_or (a c : F) (hA : CountP a) (hC : CountP c) : CountP (.b .or a c) := by
  intro w c0 c1 c2 h
  obtain ⟨b, p, cap, d0, d1, d2, e0, e1, e2, rfl, rfl, rfl, h0, h1, h2, ht, g0, g1, g2, hu⟩ := kid_b h
  have HA := hid (fun W (hm : Nu w W) => hA W d0 d1 d2 (ht.nu hm))
  have HC := hid (fun W (hm : Nu w W) => hC W e0 e1 e2 (hu.nu hm))
  obtain ⟨x, hx⟩ : ∃ x, capN (cnt true a) = x := ⟨_, rfl⟩
  obtain ⟨y, hy⟩ : ∃ y, capN (cnt false a) = y := ⟨_, rfl⟩
  obtain ⟨u, hu'⟩ : ∃ u, capN (cnt true c) = u := ⟨_, rfl⟩
  obtain ⟨v, hv⟩ : ∃ v, capN (cnt false c) = v := ⟨_, rfl⟩
  have hx2 : x ≤ 20001 := by rw [← hx]; unfold capN; omega
  have hy2 : y ≤ 20001 := by rw [← hy]; unfold capN; omega
  have hu2 : u ≤ 20001 := by rw [← hu']; unfold capN; omega
  have hv2 : v ≤ 20001 := by rw [← hv]; unfold capN; omega
  rw [hx, hy] at HA
  rw [hu', hv] at HC
  have HXY : Hid ((capN (cnt true a) = x ∧ capN (cnt false a) = y) ∧ capN (cnt true c) = u ∧ capN (cnt false c) = v) := ⟨⟨hx, hy⟩, hu', hv⟩
  clear ht hu hA hC h hx hy hu' hv
  obtain ⟨W0, hW0⟩ : ∃ W0, w.alloc (.cells #[.int .i64 (B.kind .or), .string (strOfL []), .slice (some ⟨b, p, none⟩) 2 cap] 24) = W0 := ⟨_, rfl⟩
  have hB := box3 w (.int .i64 (B.kind .or)) (.string (strOfL [])) (.slice (some ⟨b, p, none⟩) 2 cap) 24
  rw [hW0] at hB
  have HB := hid hB
  obtain ⟨R1, hR1⟩ : ∃ R, capN (cnt true (.b .or a c)) = R := ⟨_, rfl⟩
  obtain ⟨R2, hR2⟩ : ∃ R, capN (cnt false (.b .or a c)) = R := ⟨_, rfl⟩
  rw [hR1, hR2]
  have HR : Hid (capN (cnt true (.b .or a c)) = R1 ∧ capN (cnt false (.b .or a c)) = R2) := ⟨hR1, hR2⟩
  clear hR1 hR2
  unfold Looks
  all_goals
    simp only [B.kind] at hW0 hB HB ⊢
    go_enter Tryd.func34, Tryd.ntmps34
    go_upto_region 1 with fail
    clear hW0 hB
    have hc0 := HB.out.a0
    have hc2 := HB.out.a2
    have k0 := cell_mv HB.out.mv h0 id
    have k1 := cell_mv HB.out.mv h1 id
    have k2 := cell_mv HB.out.mv h2 id
    go_wp2_with fail
    refine Calls.mono (HA.out _ HB.out.mv) ?_
    rintro e w1 ⟨rfl, hm1⟩
    have HM1 := hid (mv0 HB.out.mv hm1)
    replace hc2 := cell_mv hm1 hc2 id
    clear hm1 hc0 k0 k1 k2
    have k0 := cell_mv HM1.out g0 id
    have k1 := cell_mv HM1.out g1 id
    have k2 := cell_mv HM1.out g2 id
    go_wp2_with fail
    refine Calls.mono (HC.out _ HM1.out) ?_
    rintro e w2 ⟨rfl, hm2⟩
    have HM2 := hid (mv0 HM1.out hm2)
    clear hm2 hc2 k0 k1 k2
    go_wp2_with fail
    all_goals
      go_ret2
      refine ⟨ret_2i ?_ ?_, HM2.out⟩
      · have h1 := HXY.out; have h2 := HR.out.1; simp only [cnt, capN, Bool.not_true, Bool.not_false] at h1 h2; omega
      · have h1 := HXY.out; have h2 := HR.out.2; simp only [cnt, capN, Bool.not_true, Bool.not_false] at h1 h2; omega

end Go.Proofs.YtidihaecgmbhpaaDoor
/-
  How many parts a formula's normal form has: imp.
-/
set_option linter.unusedSimpArgs false
namespace Go.Proofs.YtidihaecgmbhpaaDoor
open Go.RowKit Q

set_option maxRecDepth 100000 in
set_option maxHeartbeats 16000000 in
theorem count_imp (a c : F) (hA : CountP a) (hC : CountP c) : CountP (.b .imp a c) := by
  intro w c0 c1 c2 h
  obtain ⟨b, p, cap, d0, d1, d2, e0, e1, e2, rfl, rfl, rfl, h0, h1, h2, ht, g0, g1, g2, hu⟩ := kid_b h
  have HA := hid (fun W (hm : Nu w W) => hA W d0 d1 d2 (ht.nu hm))
  have HC := hid (fun W (hm : Nu w W) => hC W e0 e1 e2 (hu.nu hm))
  obtain ⟨x, hx⟩ : ∃ x, capN (cnt true a) = x := ⟨_, rfl⟩
  obtain ⟨y, hy⟩ : ∃ y, capN (cnt false a) = y := ⟨_, rfl⟩
  obtain ⟨u, hu'⟩ : ∃ u, capN (cnt true c) = u := ⟨_, rfl⟩
  obtain ⟨v, hv⟩ : ∃ v, capN (cnt false c) = v := ⟨_, rfl⟩
  have hx2 : x ≤ 20001 := by rw [← hx]; unfold capN; omega
  have hy2 : y ≤ 20001 := by rw [← hy]; unfold capN; omega
  have hu2 : u ≤ 20001 := by rw [← hu']; unfold capN; omega
  have hv2 : v ≤ 20001 := by rw [← hv]; unfold capN; omega
  rw [hx, hy] at HA
  rw [hu', hv] at HC
  have HXY : Hid ((capN (cnt true a) = x ∧ capN (cnt false a) = y) ∧ capN (cnt true c) = u ∧ capN (cnt false c) = v) := ⟨⟨hx, hy⟩, hu', hv⟩
  clear ht hu hA hC h hx hy hu' hv
  obtain ⟨W0, hW0⟩ : ∃ W0, w.alloc (.cells #[.int .i64 (B.kind .imp), .string (strOfL []), .slice (some ⟨b, p, none⟩) 2 cap] 24) = W0 := ⟨_, rfl⟩
  have hB := box3 w (.int .i64 (B.kind .imp)) (.string (strOfL [])) (.slice (some ⟨b, p, none⟩) 2 cap) 24
  rw [hW0] at hB
  have HB := hid hB
  obtain ⟨R1, hR1⟩ : ∃ R, capN (cnt true (.b .imp a c)) = R := ⟨_, rfl⟩
  obtain ⟨R2, hR2⟩ : ∃ R, capN (cnt false (.b .imp a c)) = R := ⟨_, rfl⟩
  rw [hR1, hR2]
  have HR : Hid (capN (cnt true (.b .imp a c)) = R1 ∧ capN (cnt false (.b .imp a c)) = R2) := ⟨hR1, hR2⟩
  clear hR1 hR2
  unfold Looks
  all_goals
    simp only [B.kind] at hW0 hB HB ⊢
    go_enter Tryd.func34, Tryd.ntmps34
    go_upto_region 1 with fail
    clear hW0 hB
    have hc0 := HB.out.a0
    have hc2 := HB.out.a2
    have k0 := cell_mv HB.out.mv h0 id
    have k1 := cell_mv HB.out.mv h1 id
    have k2 := cell_mv HB.out.mv h2 id
    go_wp2_with fail
    refine Calls.mono (HA.out _ HB.out.mv) ?_
    rintro e w1 ⟨rfl, hm1⟩
    have HM1 := hid (mv0 HB.out.mv hm1)
    replace hc2 := cell_mv hm1 hc2 id
    clear hm1 hc0 k0 k1 k2
    have k0 := cell_mv HM1.out g0 id
    have k1 := cell_mv HM1.out g1 id
    have k2 := cell_mv HM1.out g2 id
    go_wp2_with fail
    refine Calls.mono (HC.out _ HM1.out) ?_
    rintro e w2 ⟨rfl, hm2⟩
    have HM2 := hid (mv0 HM1.out hm2)
    clear hm2 hc2 k0 k1 k2
    go_wp2_with fail
    all_goals
      go_ret2
      refine ⟨ret_2i ?_ ?_, HM2.out⟩
      · have h1 := HXY.out; have h2 := HR.out.1; simp only [cnt, capN, Bool.not_true, Bool.not_false] at h1 h2; omega
      · have h1 := HXY.out; have h2 := HR.out.2; simp only [cnt, capN, Bool.not_true, Bool.not_false] at h1 h2; omega

end Go.Proofs.YtidihaecgmbhpaaDoor
/-
  How many parts a formula's normal form has: iff.
-/
set_option linter.unusedSimpArgs false
namespace Go.Proofs.YtidihaecgmbhpaaDoor
open Go.RowKit Q

set_option maxRecDepth 100000 in
set_option maxHeartbeats 16000000 in
theorem count_iff (a c : F) (hA : CountP a) (hC : CountP c) : CountP (.b .iff a c) := by
  intro w c0 c1 c2 h
  obtain ⟨b, p, cap, d0, d1, d2, e0, e1, e2, rfl, rfl, rfl, h0, h1, h2, ht, g0, g1, g2, hu⟩ := kid_b h
  have HA := hid (fun W (hm : Nu w W) => hA W d0 d1 d2 (ht.nu hm))
  have HC := hid (fun W (hm : Nu w W) => hC W e0 e1 e2 (hu.nu hm))
  obtain ⟨x, hx⟩ : ∃ x, capN (cnt true a) = x := ⟨_, rfl⟩
  obtain ⟨y, hy⟩ : ∃ y, capN (cnt false a) = y := ⟨_, rfl⟩
  obtain ⟨u, hu'⟩ : ∃ u, capN (cnt true c) = u := ⟨_, rfl⟩
  obtain ⟨v, hv⟩ : ∃ v, capN (cnt false c) = v := ⟨_, rfl⟩
  have hx2 : x ≤ 20001 := by rw [← hx]; unfold capN; omega
  have hy2 : y ≤ 20001 := by rw [← hy]; unfold capN; omega
  have hu2 : u ≤ 20001 := by rw [← hu']; unfold capN; omega
  have hv2 : v ≤ 20001 := by rw [← hv]; unfold capN; omega
  rw [hx, hy] at HA
  rw [hu', hv] at HC
  have HXY : Hid ((capN (cnt true a) = x ∧ capN (cnt false a) = y) ∧ capN (cnt true c) = u ∧ capN (cnt false c) = v) := ⟨⟨hx, hy⟩, hu', hv⟩
  clear ht hu hA hC h hx hy hu' hv
  obtain ⟨W0, hW0⟩ : ∃ W0, w.alloc (.cells #[.int .i64 (B.kind .iff), .string (strOfL []), .slice (some ⟨b, p, none⟩) 2 cap] 24) = W0 := ⟨_, rfl⟩
  have hB := box3 w (.int .i64 (B.kind .iff)) (.string (strOfL [])) (.slice (some ⟨b, p, none⟩) 2 cap) 24
  rw [hW0] at hB
  have HB := hid hB
  obtain ⟨R1, hR1⟩ : ∃ R, capN (cnt true (.b .iff a c)) = R := ⟨_, rfl⟩
  obtain ⟨R2, hR2⟩ : ∃ R, capN (cnt false (.b .iff a c)) = R := ⟨_, rfl⟩
  rw [hR1, hR2]
  have HR : Hid (capN (cnt true (.b .iff a c)) = R1 ∧ capN (cnt false (.b .iff a c)) = R2) := ⟨hR1, hR2⟩
  clear hR1 hR2
  unfold Looks
  all_goals
    simp only [B.kind] at hW0 hB HB ⊢
    go_enter Tryd.func34, Tryd.ntmps34
    go_upto_region 1 with fail
    clear hW0 hB
    have hc0 := HB.out.a0
    have hc2 := HB.out.a2
    have k0 := cell_mv HB.out.mv h0 id
    have k1 := cell_mv HB.out.mv h1 id
    have k2 := cell_mv HB.out.mv h2 id
    go_wp2_with fail
    refine Calls.mono (HA.out _ HB.out.mv) ?_
    rintro e w1 ⟨rfl, hm1⟩
    have HM1 := hid (mv0 HB.out.mv hm1)
    replace hc2 := cell_mv hm1 hc2 id
    clear hm1 hc0 k0 k1 k2
    have k0 := cell_mv HM1.out g0 id
    have k1 := cell_mv HM1.out g1 id
    have k2 := cell_mv HM1.out g2 id
    go_wp2_with fail
    refine Calls.mono (HC.out _ HM1.out) ?_
    rintro e w2 ⟨rfl, hm2⟩
    have HM2 := hid (mv0 HM1.out hm2)
    clear hm2 hc2 k0 k1 k2
    go_wp2_with fail
    all_goals
      go_ret2
      refine ⟨ret_2i ?_ ?_, HM2.out⟩
      · have h1 := HXY.out; have h2 := HR.out.1; simp only [cnt, capN, Bool.not_true, Bool.not_false] at h1 h2; omega
      · have h1 := HXY.out; have h2 := HR.out.2; simp only [cnt, capN, Bool.not_true, Bool.not_false] at h1 h2; omega

end Go.Proofs.YtidihaecgmbhpaaDoor
/-
  How many parts a formula's normal form has: til.
-/
set_option linter.unusedSimpArgs false
namespace Go.Proofs.YtidihaecgmbhpaaDoor
open Go.RowKit Q

set_option maxRecDepth 100000 in
set_option maxHeartbeats 16000000 in
theorem count_til (a c : F) (hA : CountP a) (hC : CountP c) : CountP (.b .til a c) := by
  intro w c0 c1 c2 h
  obtain ⟨b, p, cap, d0, d1, d2, e0, e1, e2, rfl, rfl, rfl, h0, h1, h2, ht, g0, g1, g2, hu⟩ := kid_b h
  have HA := hid (fun W (hm : Nu w W) => hA W d0 d1 d2 (ht.nu hm))
  have HC := hid (fun W (hm : Nu w W) => hC W e0 e1 e2 (hu.nu hm))
  obtain ⟨x, hx⟩ : ∃ x, capN (cnt true a) = x := ⟨_, rfl⟩
  obtain ⟨y, hy⟩ : ∃ y, capN (cnt false a) = y := ⟨_, rfl⟩
  obtain ⟨u, hu'⟩ : ∃ u, capN (cnt true c) = u := ⟨_, rfl⟩
  obtain ⟨v, hv⟩ : ∃ v, capN (cnt false c) = v := ⟨_, rfl⟩
  have hx2 : x ≤ 20001 := by rw [← hx]; unfold capN; omega
  have hy2 : y ≤ 20001 := by rw [← hy]; unfold capN; omega
  have hu2 : u ≤ 20001 := by rw [← hu']; unfold capN; omega
  have hv2 : v ≤ 20001 := by rw [← hv]; unfold capN; omega
  rw [hx, hy] at HA
  rw [hu', hv] at HC
  have HXY : Hid ((capN (cnt true a) = x ∧ capN (cnt false a) = y) ∧ capN (cnt true c) = u ∧ capN (cnt false c) = v) := ⟨⟨hx, hy⟩, hu', hv⟩
  clear ht hu hA hC h hx hy hu' hv
  obtain ⟨W0, hW0⟩ : ∃ W0, w.alloc (.cells #[.int .i64 (B.kind .til), .string (strOfL []), .slice (some ⟨b, p, none⟩) 2 cap] 24) = W0 := ⟨_, rfl⟩
  have hB := box3 w (.int .i64 (B.kind .til)) (.string (strOfL [])) (.slice (some ⟨b, p, none⟩) 2 cap) 24
  rw [hW0] at hB
  have HB := hid hB
  obtain ⟨R1, hR1⟩ : ∃ R, capN (cnt true (.b .til a c)) = R := ⟨_, rfl⟩
  obtain ⟨R2, hR2⟩ : ∃ R, capN (cnt false (.b .til a c)) = R := ⟨_, rfl⟩
  rw [hR1, hR2]
  have HR : Hid (capN (cnt true (.b .til a c)) = R1 ∧ capN (cnt false (.b .til a c)) = R2) := ⟨hR1, hR2⟩
  clear hR1 hR2
  unfold Looks
  all_goals
    simp only [B.kind] at hW0 hB HB ⊢
    go_enter Tryd.func34, Tryd.ntmps34
    go_upto_region 1 with fail
    clear hW0 hB
    have hc0 := HB.out.a0
    have hc2 := HB.out.a2
    have k0 := cell_mv HB.out.mv h0 id
    have k1 := cell_mv HB.out.mv h1 id
    have k2 := cell_mv HB.out.mv h2 id
    go_wp2_with fail
    refine Calls.mono (HA.out _ HB.out.mv) ?_
    rintro e w1 ⟨rfl, hm1⟩
    have HM1 := hid (mv0 HB.out.mv hm1)
    replace hc2 := cell_mv hm1 hc2 id
    clear hm1 hc0 k0 k1 k2
    have k0 := cell_mv HM1.out g0 id
    have k1 := cell_mv HM1.out g1 id
    have k2 := cell_mv HM1.out g2 id
    go_wp2_with fail
    refine Calls.mono (HC.out _ HM1.out) ?_
    rintro e w2 ⟨rfl, hm2⟩
    have HM2 := hid (mv0 HM1.out hm2)
    clear hm2 hc2 k0 k1 k2
    go_wp2_with fail
    all_goals
      go_ret2
      refine ⟨ret_2i ?_ ?_, HM2.out⟩
      · have h1 := HXY.out; have h2 := HR.out.1; simp only [cnt, capN, Bool.not_true, Bool.not_false] at h1 h2; omega
      · have h1 := HXY.out; have h2 := HR.out.2; simp only [cnt, capN, Bool.not_true, Bool.not_false] at h1 h2; omega

end Go.Proofs.YtidihaecgmbhpaaDoor
/-
  How many parts a formula's normal form has: rel.
-/
set_option linter.unusedSimpArgs false
namespace Go.Proofs.YtidihaecgmbhpaaDoor
open Go.RowKit Q

set_option maxRecDepth 100000 in
set_option maxHeartbeats 16000000 in
theorem count_rel (a c : F) (hA : CountP a) (hC : CountP c) : CountP (.b .rel a c) := by
  intro w c0 c1 c2 h
  obtain ⟨b, p, cap, d0, d1, d2, e0, e1, e2, rfl, rfl, rfl, h0, h1, h2, ht, g0, g1, g2, hu⟩ := kid_b h
  have HA := hid (fun W (hm : Nu w W) => hA W d0 d1 d2 (ht.nu hm))
  have HC := hid (fun W (hm : Nu w W) => hC W e0 e1 e2 (hu.nu hm))
  obtain ⟨x, hx⟩ : ∃ x, capN (cnt true a) = x := ⟨_, rfl⟩
  obtain ⟨y, hy⟩ : ∃ y, capN (cnt false a) = y := ⟨_, rfl⟩
  obtain ⟨u, hu'⟩ : ∃ u, capN (cnt true c) = u := ⟨_, rfl⟩
  obtain ⟨v, hv⟩ : ∃ v, capN (cnt false c) = v := ⟨_, rfl⟩
  have hx2 : x ≤ 20001 := by rw [← hx]; unfold capN; omega
  have hy2 : y ≤ 20001 := by rw [← hy]; unfold capN; omega
  have hu2 : u ≤ 20001 := by rw [← hu']; unfold capN; omega
  have hv2 : v ≤ 20001 := by rw [← hv]; unfold capN; omega
  rw [hx, hy] at HA
  rw [hu', hv] at HC
  have HXY : Hid ((capN (cnt true a) = x ∧ capN (cnt false a) = y) ∧ capN (cnt true c) = u ∧ capN (cnt false c) = v) := ⟨⟨hx, hy⟩, hu', hv⟩
  clear ht hu hA hC h hx hy hu' hv
  obtain ⟨W0, hW0⟩ : ∃ W0, w.alloc (.cells #[.int .i64 (B.kind .rel), .string (strOfL []), .slice (some ⟨b, p, none⟩) 2 cap] 24) = W0 := ⟨_, rfl⟩
  have hB := box3 w (.int .i64 (B.kind .rel)) (.string (strOfL [])) (.slice (some ⟨b, p, none⟩) 2 cap) 24
  rw [hW0] at hB
  have HB := hid hB
  obtain ⟨R1, hR1⟩ : ∃ R, capN (cnt true (.b .rel a c)) = R := ⟨_, rfl⟩
  obtain ⟨R2, hR2⟩ : ∃ R, capN (cnt false (.b .rel a c)) = R := ⟨_, rfl⟩
  rw [hR1, hR2]
  have HR : Hid (capN (cnt true (.b .rel a c)) = R1 ∧ capN (cnt false (.b .rel a c)) = R2) := ⟨hR1, hR2⟩
  clear hR1 hR2
  unfold Looks
  all_goals
    simp only [B.kind] at hW0 hB HB ⊢
    go_enter Tryd.func34, Tryd.ntmps34
    go_upto_region 1 with fail
    clear hW0 hB
    have hc0 := HB.out.a0
    have hc2 := HB.out.a2
    have k0 := cell_mv HB.out.mv h0 id
    have k1 := cell_mv HB.out.mv h1 id
    have k2 := cell_mv HB.out.mv h2 id
    go_wp2_with fail
    refine Calls.mono (HA.out _ HB.out.mv) ?_
    rintro e w1 ⟨rfl, hm1⟩
    have HM1 := hid (mv0 HB.out.mv hm1)
    replace hc2 := cell_mv hm1 hc2 id
    clear hm1 hc0 k0 k1 k2
    have k0 := cell_mv HM1.out g0 id
    have k1 := cell_mv HM1.out g1 id
    have k2 := cell_mv HM1.out g2 id
    go_wp2_with fail
    refine Calls.mono (HC.out _ HM1.out) ?_
    rintro e w2 ⟨rfl, hm2⟩
    have HM2 := hid (mv0 HM1.out hm2)
    clear hm2 hc2 k0 k1 k2
    go_wp2_with fail
    all_goals
      go_ret2
      refine ⟨ret_2i ?_ ?_, HM2.out⟩
      · have h1 := HXY.out; have h2 := HR.out.1; simp only [cnt, capN, Bool.not_true, Bool.not_false] at h1 h2; omega
      · have h1 := HXY.out; have h2 := HR.out.2; simp only [cnt, capN, Bool.not_true, Bool.not_false] at h1 h2; omega

end Go.Proofs.YtidihaecgmbhpaaDoor
/-
  How many parts a formula's normal form has: weak.
-/
set_option linter.unusedSimpArgs false
namespace Go.Proofs.YtidihaecgmbhpaaDoor
open Go.RowKit Q

set_option maxRecDepth 100000 in
set_option maxHeartbeats 16000000 in
theorem count_weak (a c : F) (hA : CountP a) (hC : CountP c) : CountP (.b .weak a c) := by
  intro w c0 c1 c2 h
  obtain ⟨b, p, cap, d0, d1, d2, e0, e1, e2, rfl, rfl, rfl, h0, h1, h2, ht, g0, g1, g2, hu⟩ := kid_b h
  have HA := hid (fun W (hm : Nu w W) => hA W d0 d1 d2 (ht.nu hm))
  have HC := hid (fun W (hm : Nu w W) => hC W e0 e1 e2 (hu.nu hm))
  obtain ⟨x, hx⟩ : ∃ x, capN (cnt true a) = x := ⟨_, rfl⟩
  obtain ⟨y, hy⟩ : ∃ y, capN (cnt false a) = y := ⟨_, rfl⟩
  obtain ⟨u, hu'⟩ : ∃ u, capN (cnt true c) = u := ⟨_, rfl⟩
  obtain ⟨v, hv⟩ : ∃ v, capN (cnt false c) = v := ⟨_, rfl⟩
  have hx2 : x ≤ 20001 := by rw [← hx]; unfold capN; omega
  have hy2 : y ≤ 20001 := by rw [← hy]; unfold capN; omega
  have hu2 : u ≤ 20001 := by rw [← hu']; unfold capN; omega
  have hv2 : v ≤ 20001 := by rw [← hv]; unfold capN; omega
  rw [hx, hy] at HA
  rw [hu', hv] at HC
  have HXY : Hid ((capN (cnt true a) = x ∧ capN (cnt false a) = y) ∧ capN (cnt true c) = u ∧ capN (cnt false c) = v) := ⟨⟨hx, hy⟩, hu', hv⟩
  clear ht hu hA hC h hx hy hu' hv
  obtain ⟨W0, hW0⟩ : ∃ W0, w.alloc (.cells #[.int .i64 (B.kind .weak), .string (strOfL []), .slice (some ⟨b, p, none⟩) 2 cap] 24) = W0 := ⟨_, rfl⟩
  have hB := box3 w (.int .i64 (B.kind .weak)) (.string (strOfL [])) (.slice (some ⟨b, p, none⟩) 2 cap) 24
  rw [hW0] at hB
  have HB := hid hB
  obtain ⟨R1, hR1⟩ : ∃ R, capN (cnt true (.b .weak a c)) = R := ⟨_, rfl⟩
  obtain ⟨R2, hR2⟩ : ∃ R, capN (cnt false (.b .weak a c)) = R := ⟨_, rfl⟩
  rw [hR1, hR2]
  have HR : Hid (capN (cnt true (.b .weak a c)) = R1 ∧ capN (cnt false (.b .weak a c)) = R2) := ⟨hR1, hR2⟩
  clear hR1 hR2
  unfold Looks
  all_goals
    simp only [B.kind] at hW0 hB HB ⊢
    go_enter Tryd.func34, Tryd.ntmps34
    go_upto_region 1 with fail
    clear hW0 hB
    have hc0 := HB.out.a0
    have hc2 := HB.out.a2
    have k0 := cell_mv HB.out.mv h0 id
    have k1 := cell_mv HB.out.mv h1 id
    have k2 := cell_mv HB.out.mv h2 id
    go_wp2_with fail
    refine Calls.mono (HA.out _ HB.out.mv) ?_
    rintro e w1 ⟨rfl, hm1⟩
    have HM1 := hid (mv0 HB.out.mv hm1)
    replace hc2 := cell_mv hm1 hc2 id
    clear hm1 hc0 k0 k1 k2
    have k0 := cell_mv HM1.out g0 id
    have k1 := cell_mv HM1.out g1 id
    have k2 := cell_mv HM1.out g2 id
    go_wp2_with fail
    refine Calls.mono (HC.out _ HM1.out) ?_
    rintro e w2 ⟨rfl, hm2⟩
    have HM2 := hid (mv0 HM1.out hm2)
    clear hm2 hc2 k0 k1 k2
    go_wp2_with fail
    all_goals
      go_ret2
      refine ⟨ret_2i ?_ ?_, HM2.out⟩
      · have h1 := HXY.out; have h2 := HR.out.1; simp only [cnt, capN, Bool.not_true, Bool.not_false] at h1 h2; omega
      · have h1 := HXY.out; have h2 := HR.out.2; simp only [cnt, capN, Bool.not_true, Bool.not_false] at h1 h2; omega

end Go.Proofs.YtidihaecgmbhpaaDoor
/-
  How many parts a formula's normal form has: whole.
-/
namespace Go.Proofs.YtidihaecgmbhpaaDoor
open Go.RowKit Q

theorem count_b (o : B) (a c : F) (hA : CountP a) (hC : CountP c) : CountP (.b o a c) := by
  cases o
  · exact count_and a c hA hC
  · exact count_or a c hA hC
  · exact count_imp a c hA hC
  · exact count_iff a c hA hC
  · exact count_til a c hA hC
  · exact count_rel a c hA hC
  · exact count_weak a c hA hC

theorem count_any (f : F) : CountP f := by
  induction f with
  | tt => exact count_leaf _ (.inl rfl)
  | ff => exact count_leaf _ (.inr (.inl rfl))
  | pr s => exact count_leaf _ (.inr (.inr ⟨s, rfl⟩))
  | u o a ih => exact count_u o a ih
  | b o a c iha ihc => exact count_b o a c iha ihc

end Go.Proofs.YtidihaecgmbhpaaDoor
