/-
  VSound, VCut.
-/
import Derived.Deep.AppendLies
import Derived.Test.YtidihaecgmbhpabDoorM11
import Derived.Test.YtidihaecgmbhpabDoorM16
/-
  What a part may be: what the program's IsName, sound and plain give.
-/
set_option linter.unusedSimpArgs false
set_option linter.unusedVariables false
namespace Go.Proofs.YtidihaecgmbhpabDoor
open Go.RowKit Q

theorem wkind_name (s : Wd) : (wkind s = 3) ↔ s ∉ noNames := by
  unfold wkind
  cases hf : resT.find? (fun x => x.1 == s) with
  | some x =>
    have hm := List.mem_of_find?_eq_some hf
    have he : x.1 = s := by have := List.find?_some hf; simpa using this
    have := res_kind x hm
    simp only
    constructor
    · intro h; exact absurd h this.2.2.1
    · intro h; exact absurd ((res_names s).2 (List.mem_map.2 ⟨x, hm, he⟩)) h
  | none =>
    simp only [true_iff]
    intro hu
    obtain ⟨x, hx, he⟩ := List.mem_map.1 ((res_names s).1 hu)
    rw [List.find?_eq_none] at hf
    exact hf x hx (by simp [he])

theorem takeWhile_all {q : UInt8 → Bool} {l : Wd} : (l.takeWhile q).length = l.length ↔ l.all q = true := by
  induction l with
  | nil => simp
  | cons a l ih =>
    rw [List.takeWhile_cons]
    cases hq : q a with
    | true => simp [hq, ih]
    | false => simp [hq]

theorem name_row {s : Wd} (h : s ≠ []) : (rowEnd s 0 = s.length) ↔ (letFirst s = true ∧ s.all isLD = true) := by
  cases s with
  | nil => exact absurd rfl h
  | cons c r =>
    obtain ⟨h1, h2⟩ := rowEnd_let (s := c :: r) (p := 0) (c := c) rfl
    cases hl : isLet c with
    | true =>
      rw [(h1 hl).1]
      unfold tw
      rw [List.drop_zero, Nat.zero_add, takeWhile_all]
      simp [letFirst, hl]
    | false =>
      rw [h2 hl]
      simp [letFirst, hl]

theorem isName_eq (s : Wd) : isName s = (decide (s ≠ []) && decide (s.length ≤ 32) && decide (rowEnd s 0 = s.length) && decide (wkind s = 3)) := by
  unfold isName
  cases s with
  | nil => simp
  | cons c r =>
    have h1 := name_row (s := c :: r) (by simp)
    have h2 := wkind_name (c :: r)
    rw [Bool.eq_iff_iff]
    simp only [Bool.and_eq_true, decide_eq_true_eq, Bool.not_eq_true', decide_eq_false_iff_not, h1, h2]
    constructor
    · rintro ⟨⟨⟨⟨a, b⟩, c⟩, d⟩, e⟩; exact ⟨⟨⟨by simp, b⟩, c, d⟩, e⟩
    · rintro ⟨⟨⟨a, b⟩, c, d⟩, e⟩; exact ⟨⟨⟨⟨by simp, b⟩, c⟩, d⟩, e⟩

set_option maxHeartbeats 2000000 in
theorem IsName_any' (s : Wd) (hs : s.length ≤ 140737488355328) (w : World) (hG : Gl w) : Looks 40 #[.string (strOfL s)] w (.bool (isName s)) := by
  have HSz := hid (str_size s)
  have HQ := hid (isName_eq s)
  unfold Looks
  by_cases h0 : s = []
  · subst h0
    have HE : Hid (isName [] = false) := rfl
    have hemp : (strOfL []).toList.isEmpty = true := by rw [strOfL_toList]; rfl
    go_enter Tryd.func40, Tryd.ntmps40
    go_wp2_with fail
    go_ret
    exact ⟨rfl, Mv.refl _ _⟩
  · have hpos : 0 < s.length := List.length_pos_iff.2 h0
    have hne : (strOfL s).toList.isEmpty = false := by rw [strOfL_toList]; cases s with | nil => exact absurd rfl h0 | cons a r => rfl
    by_cases h32 : s.length ≤ 32
    · have h32' : ((strOfL s).size : Int) ≤ 32 := by rw [HSz.out]; omega
      have HR := hid (fun W => rowEnd_any s 0 hs hpos W)
      have HK := hid (fun W (hN : Nu w W) => wordKind_any s W (hG.nu hN))
      by_cases hrow : rowEnd s 0 = s.length
      · have HE : Hid (isName s = decide (wkind s = 3)) := by show _ = _; rw [HQ.out, decide_eq_true h0, decide_eq_true h32, decide_eq_true hrow]; simp
        have hrow' : ((rowEnd s 0 : Int) == ((strOfL s).size : Int)) = true := by rw [HSz.out]; simp; omega
        generalize rowEnd s 0 = re at *
        clear hrow hpos h0 hs h32
        go_enter Tryd.func40, Tryd.ntmps40
        go_wp2_with fail
        refine Calls.mono (HR.out w) ?_
        rintro e w1 ⟨rfl, hw1⟩
        rw [hw1]
        clear hw1 w1
        go_wp2_with fail
        refine Calls.mono (HK.out w (Mv.refl _ _)) ?_
        rintro e w2 ⟨rfl, hm2⟩
        have HM2 := hid hm2
        clear hm2
        generalize wkind s = kd at HE ⊢
        go_wp2_with fail
        go_ret
        refine ⟨ret_bool ?_, HM2.out⟩
        rw [HE.out]
        rw [Bool.eq_iff_iff]
        simp
      · have HE : Hid (isName s = false) := by show _ = _; rw [HQ.out, decide_eq_false hrow]; simp
        have hrow' : ((rowEnd s 0 : Int) == ((strOfL s).size : Int)) = false := by rw [HSz.out]; simp; omega
        generalize rowEnd s 0 = re at *
        clear hrow hpos h0 hs h32
        go_enter Tryd.func40, Tryd.ntmps40
        go_wp2_with fail
        refine Calls.mono (HR.out w) ?_
        rintro e w1 ⟨rfl, hw1⟩
        rw [hw1]
        clear hw1 w1
        go_wp2_with fail
        go_ret
        exact ⟨ret_bool (a := false) HE.out.symm, Mv.refl _ _⟩
    · have HE : Hid (isName s = false) := by show _ = _; rw [HQ.out, decide_eq_false h32]; simp
      have h32' : ¬ ((strOfL s).size : Int) ≤ 32 := by rw [HSz.out]; omega
      clear hpos h0 h32
      go_enter Tryd.func40, Tryd.ntmps40
      go_wp2_with fail
      go_ret
      exact ⟨ret_bool (a := false) HE.out.symm, Mv.refl _ _⟩

def shCells (L : List (Wd × Int × Int × Int × Int)) : List Value := L.flatMap fun x => [Value.string (strOfL x.1), .int .i64 x.2.1, .int .i64 x.2.2.1, .int .i64 x.2.2.2.1, .int .i64 x.2.2.2.2]
theorem shCells_get : ∀ (L : List (Wd × Int × Int × Int × Int)) (k : Nat) x, L[k]? = some x → (shCells L)[k * 5]? = some (.string (strOfL x.1)) ∧ (shCells L)[k * 5 + 1]? = some (.int .i64 x.2.1) ∧ (shCells L)[k * 5 + 2]? = some (.int .i64 x.2.2.1) ∧ (shCells L)[k * 5 + 3]? = some (.int .i64 x.2.2.2.1) ∧ (shCells L)[k * 5 + 4]? = some (.int .i64 x.2.2.2.2)
  | [], k, x, h => by simp at h
  | a :: L, 0, x, h => by simp at h; subst h; exact ⟨rfl, rfl, rfl, rfl, rfl⟩
  | a :: L, k + 1, x, h => by
    have := shCells_get L k x (by simpa using h)
    rw [show shCells (a :: L) = .string (strOfL a.1) :: .int .i64 a.2.1 :: .int .i64 a.2.2.1 :: .int .i64 a.2.2.2.1 :: .int .i64 a.2.2.2.2 :: shCells L from rfl, show (k + 1) * 5 = k * 5 + 1 + 1 + 1 + 1 + 1 by omega]
    exact this

/-- A kind's row of the table. -/
theorem Gl.shape {w : World} (h : Gl w) (k : Nat) (x : Wd × Int × Int × Int × Int) (hx : shpT[k]? = some x) : w.cell? ⟨0, k * 5, none⟩ = some (.string (strOfL x.1)) ∧ w.cell? ⟨0, k * 5 + 1, none⟩ = some (.int .i64 x.2.1) ∧ w.cell? ⟨0, k * 5 + 2, none⟩ = some (.int .i64 x.2.2.1) ∧ w.cell? ⟨0, k * 5 + 3, none⟩ = some (.int .i64 x.2.2.2.1) ∧ w.cell? ⟨0, k * 5 + 4, none⟩ = some (.int .i64 x.2.2.2.2) := by
  have e : shapeC.toList = shCells shpT := rfl
  obtain ⟨h0, h1, h2, h3, h4⟩ := shCells_get shpT k x hx
  refine ⟨?_, ?_, ?_, ?_, ?_⟩ <;> (rw [cell_blk h.shp, ← Array.getElem?_toList, e]; assumption)

theorem shp_kids : ∀ k : Nat, k < 15 → 1 ≤ k → ∃ x, shpT[k]? = some x ∧ x.2.1 = T.kidsN (k : Int) := by decide

/-- A part by itself. -/
def sound1 (k : Int) (n : Wd) (l : Nat) : Bool := decide (T.kidsN k = (l : Int)) && (if k = 3 then isName n else decide (n = []))

set_option maxHeartbeats 4000000 in
theorem sound_any (w : World) (hG : Gl w) (pb po : Nat) (k : Int) (n : Wd) (ao : Option Addr) (l cap : Nat) (hn : n.length ≤ 140737488355328) (h0 : w.cell? ⟨pb, po, none⟩ = some (.int .i64 k)) (h1 : w.cell? ⟨pb, po + 1, none⟩ = some (.string (strOfL n))) (h2 : w.cell? ⟨pb, po + 2, none⟩ = some (.slice ao l cap)) :
    Looks 23 #[.pointer (some ⟨pb, po, none⟩)] w (.bool (sound1 k n l)) := by
  have HN := hid (fun W (hN : Nu w W) => IsName_any' n hn W (hG.nu hN))
  have HG := hid hG
  clear hG hn
  unfold Looks
  by_cases hk : 1 ≤ k ∧ k ≤ 14
  · obtain ⟨kn, rfl⟩ : ∃ kn : Nat, k = kn := ⟨k.toNat, by omega⟩
    obtain ⟨x, hx, hxk⟩ := shp_kids kn (by omega) (by omega)
    have c1 := (HG.out.shape kn x hx).2.1
    rw [hxk] at c1
    obtain ⟨q, hq⟩ : ∃ q, T.kidsN (kn : Int) = q := ⟨_, rfl⟩
    rw [hq] at c1
    have HS : Hid (sound1 kn n l = (decide (q = (l : Int)) && (if (kn : Int) = 3 then isName n else decide (n = [])))) := by show _ = _; unfold sound1; rw [hq]
    have a1 : ¬ (kn : Int) < 1 := by omega
    have a2 : ¬ (kn : Int) ≥ 15 := by omega
    have a3 : (kn : Int) < 15 := by omega
    clear hx hxk hq hk
    by_cases hl : q = (l : Int)
    · have hl' : ((l : Int) != q) = false := by simp; omega
      go_enter Tryd.func23, Tryd.ntmps23
      go_upto_region 1 with fail
      go_quiet (fail)
      have hm1 : Nu w (w.drewN nq) := Mv.drewN _ _ _
      generalize hW1 : World.drewN _ _ = W1 at hm1 ⊢
      clear hW1
      replace h0 := cell_mv hm1 h0 id
      replace h1 := cell_mv hm1 h1 id
      replace h2 := cell_mv hm1 h2 id
      have HM1 := hid hm1
      clear hm1
      by_cases hk3 : (kn : Int) = 3
      · have HE : Hid (sound1 kn n l = isName n) := by show _ = _; rw [HS.out, if_pos hk3, decide_eq_true hl]; simp
        go_wp2_with fail
        refine Calls.mono (HN.out W1 HM1.out) ?_
        rintro e w2 ⟨rfl, hm2⟩
        have HM2 := hid hm2
        clear hm2
        go_wp2_with fail
        go_ret
        exact ⟨ret_bool HE.out.symm, mv0 HM1.out HM2.out⟩
      · have HE : Hid (sound1 kn n l = (strOfL n).toList.isEmpty) := by
          show _ = _
          rw [HS.out, if_neg hk3, decide_eq_true hl, strOfL_toList]
          cases n <;> simp
        go_wp2_with fail
        go_ret
        exact ⟨ret_bool HE.out.symm, HM1.out⟩
    · have hl' : ((l : Int) != q) = true := by simp; omega
      have HE : Hid (sound1 kn n l = false) := by show _ = _; rw [HS.out, decide_eq_false hl]; simp
      go_enter Tryd.func23, Tryd.ntmps23
      go_upto_region 1 with fail
      go_quiet (fail)
      go_wp2_with fail
      go_ret
      exact ⟨ret_bool (a := false) HE.out.symm, Mv.drewN _ _ _⟩
  · have HE : Hid (sound1 k n l = false) := by
      show _ = _
      unfold sound1 T.kidsN
      rw [if_neg (by omega), if_neg (by omega), if_neg (by omega), decide_eq_false (by omega)]
      simp
    by_cases hk1 : k < 1
    · go_enter Tryd.func23, Tryd.ntmps23
      go_upto_region 1 with fail
      go_quiet (fail)
      go_wp2_with fail
      go_ret
      exact ⟨ret_bool (a := false) HE.out.symm, Mv.drewN _ _ _⟩
    · have hk2 : k ≥ 15 := by omega
      go_enter Tryd.func23, Tryd.ntmps23
      go_upto_region 1 with fail
      go_quiet (fail)
      go_wp2_with fail
      go_ret
      exact ⟨ret_bool (a := false) HE.out.symm, Mv.drewN _ _ _⟩

/-- A plain part by itself; a is its first kid's kind. -/
def plain1 (k a : Int) : Bool := if k = 4 then decide (a = 3) else decide (k = 1 ∨ k = 2 ∨ k = 3 ∨ k = 5 ∨ k = 8 ∨ k = 9 ∨ k = 12 ∨ k = 13)

set_option maxHeartbeats 4000000 in
theorem plain_any' (w : World) (pb po : Nat) (k a : Int) (ao : Option Addr) (l cap : Nat) (h0 : w.cell? ⟨pb, po, none⟩ = some (.int .i64 k)) (h2 : w.cell? ⟨pb, po + 2, none⟩ = some (.slice ao l cap)) (h4 : k = 4 → 0 < l ∧ ∃ b o, ao = some ⟨b, o, none⟩ ∧ w.cell? ⟨b, o, none⟩ = some (.int .i64 a)) :
    Looks 24 #[.pointer (some ⟨pb, po, none⟩)] w (.bool (plain1 k a)) := by
  unfold Looks
  by_cases hk : k = 4
  · subst hk
    obtain ⟨hl, b, o, rfl, hc⟩ := h4 rfl
    have HE : Hid (plain1 4 a = decide (a = 3)) := rfl
    have hl' : (0 : Int) < (l : Int) := by omega
    clear h4
    go_enter Tryd.func24, Tryd.ntmps24
    go_wp2_with fail
    go_ret
    refine ⟨ret_bool ?_, Mv.refl _ _⟩
    rw [HE.out, Bool.eq_iff_iff]
    simp
  · have HE : Hid (plain1 k a = decide (k = 1 ∨ k = 2 ∨ k = 3 ∨ k = 5 ∨ k = 8 ∨ k = 9 ∨ k = 12 ∨ k = 13)) := by show _ = _; unfold plain1; rw [if_neg hk]
    clear h4
    by_cases hp : k = 1 ∨ k = 2 ∨ k = 3 ∨ k = 5 ∨ k = 8 ∨ k = 9 ∨ k = 12 ∨ k = 13
    · have HE2 : Hid (plain1 k a = true) := by show _ = _; rw [HE.out, decide_eq_true hp]
      clear HE hk
      rcases hp with rfl | rfl | rfl | rfl | rfl | rfl | rfl | rfl
      all_goals
        go_enter Tryd.func24, Tryd.ntmps24
        go_wp2_with fail
        go_ret
        exact ⟨ret_bool (a := true) HE2.out.symm, Mv.refl _ _⟩
    · have HE2 : Hid (plain1 k a = false) := by show _ = _; rw [HE.out, decide_eq_false hp]
      have n1 : (k == 1) = false := by rw [beq_eq_false_iff_ne]; omega
      have n2 : (k == 2) = false := by rw [beq_eq_false_iff_ne]; omega
      have n3 : (k == 3) = false := by rw [beq_eq_false_iff_ne]; omega
      have n4 : (k == 4) = false := by rw [beq_eq_false_iff_ne]; omega
      have n5 : (k == 5) = false := by rw [beq_eq_false_iff_ne]; omega
      have n8 : (k == 8) = false := by rw [beq_eq_false_iff_ne]; omega
      have n9 : (k == 9) = false := by rw [beq_eq_false_iff_ne]; omega
      have n12 : (k == 12) = false := by rw [beq_eq_false_iff_ne]; omega
      have n13 : (k == 13) = false := by rw [beq_eq_false_iff_ne]; omega
      clear hp hk HE
      go_enter Tryd.func24, Tryd.ntmps24
      go_wp2_with fail
      go_ret
      exact ⟨ret_bool (a := false) HE2.out.symm, Mv.refl _ _⟩

end Go.Proofs.YtidihaecgmbhpabDoor
/-
  A text's words: what the program's cut gives.
-/
set_option linter.unusedSimpArgs false
namespace Go.Proofs.YtidihaecgmbhpabDoor
open Go.RowKit Q

def wcells (L : List Wrd) : List Value := L.flatMap fun x => [.int .i64 x.k, .int .i64 (x.at' : Int), .string (strOfL x.nm)]

theorem wcells_len (L : List Wrd) : (wcells L).length = L.length * 3 := by
  induction L with
  | nil => rfl
  | cons a acc ih => simp only [wcells, List.flatMap_cons, List.length_append, List.length_cons, List.length_nil] at ih ⊢; omega
theorem wcells_app (L : List Wrd) (x : Wrd) : wcells (L ++ [x]) = wcells L ++ [.int .i64 x.k, .int .i64 (x.at' : Int), .string (strOfL x.nm)] := by simp [wcells]
theorem wcells_get : ∀ (L : List Wrd) (k : Nat) (x : Wrd), L[k]? = some x → (wcells L)[k * 3]? = some (.int .i64 x.k) ∧ (wcells L)[k * 3 + 1]? = some (.int .i64 (x.at' : Int)) ∧ (wcells L)[k * 3 + 2]? = some (.string (strOfL x.nm))
  | [], k, x, h => by simp at h
  | a :: L, 0, x, h => by simp at h; subst h; exact ⟨rfl, rfl, rfl⟩
  | a :: L, k + 1, x, h => by
    have := wcells_get L k x (by simpa using h)
    rw [show wcells (a :: L) = .int .i64 a.k :: .int .i64 (a.at' : Int) :: .string (strOfL a.nm) :: wcells L from rfl, show (k + 1) * 3 = k * 3 + 1 + 1 + 1 by omega]
    exact this

/-- Lists beside each other. -/
def Wrs : List Wrd → List (Wd × Nat) → Prop
  | [], [] => True
  | x :: r, t :: u => Wr x t ∧ Wrs r u
  | _, _ => False

theorem Wrs.app : ∀ {r : List Wrd} {u : List (Wd × Nat)} {x : Wrd} {t : Wd × Nat}, Wrs r u → Wr x t → Wrs (r ++ [x]) (u ++ [t])
  | [], [], _, _, _, h => ⟨h, trivial⟩
  | [], _ :: _, _, _, h, _ => h.elim
  | _ :: _, [], _, _, h, _ => h.elim
  | _ :: _, _ :: _, _, _, h, g => ⟨h.1, Wrs.app h.2 g⟩
theorem Wrs.len : ∀ {r : List Wrd} {u : List (Wd × Nat)}, Wrs r u → r.length = u.length
  | [], [], _ => rfl
  | [], _ :: _, h => h.elim
  | _ :: _, [], h => h.elim
  | _ :: _, _ :: _, h => by simp [Wrs.len h.2]
theorem Wrs.get : ∀ {r : List Wrd} {u : List (Wd × Nat)} {i : Nat} {t : Wd × Nat}, Wrs r u → u[i]? = some t → ∃ x, r[i]? = some x ∧ Wr x t
  | [], [], _, _, _, h => by simp at h
  | [], _ :: _, _, _, h, _ => h.elim
  | _ :: _, [], _, _, h, _ => h.elim
  | x :: _, t :: _, 0, _, h, g => by simp at g; subst g; exact ⟨x, rfl, h.1⟩
  | _ :: _, _ :: _, i + 1, _, h, g => by
    obtain ⟨x, h1, h2⟩ := Wrs.get h.2 (by simpa using g)
    exact ⟨x, by simpa using h1, h2⟩

def catW (acc : List (Wd × Nat)) : Except Nat (List (Wd × Nat)) → Except Nat (List (Wd × Nat))
  | .ok l => .ok (acc ++ l)
  | .error e => .error e

/-- Blanks are passed over. -/
theorem tks_blanks (s : Wd) : ∀ (n p g : Nat), s.length - p < g → p ≤ s.length → tw isBl s p - p = n → ∃ g', s.length - tw isBl s p < g' ∧ tks g p (s.drop p) = tks g' (tw isBl s p) (s.drop (tw isBl s p))
  | 0, p, g, hg, hp, hn => by
    have : tw isBl s p = p := by have := tw_ge isBl s p; omega
    exact ⟨g, by rw [this]; exact hg, by rw [this]⟩
  | n + 1, p, g, hg, hp, hn => by
    have hlt : p < s.length := by have := tw_le isBl s p hp; omega
    obtain ⟨c, hc⟩ : ∃ c, s[p]? = some c := ⟨_, List.getElem?_eq_getElem hlt⟩
    have hd : s.drop p = c :: s.drop (p + 1) := by
      obtain ⟨hp, rfl⟩ := List.getElem?_eq_some_iff.1 hc
      exact List.drop_eq_getElem_cons hp
    have hb : isBl c = true := by
      cases hb : isBl c with
      | true => rfl
      | false => unfold tw at hn; rw [hd, List.takeWhile_cons, hb] at hn; simp at hn
    have ht : tw isBl s p = tw isBl s (p + 1) := by
      unfold tw
      rw [hd, List.takeWhile_cons, if_pos hb]
      simp only [List.length_cons]
      omega
    cases g with
    | zero => omega
    | succ g =>
      obtain ⟨g', h1, h2⟩ := tks_blanks s n (p + 1) g (by omega) (by omega) (by rw [← ht]; omega)
      refine ⟨g', by rw [ht]; exact h1, ?_⟩
      rw [ht, ← h2, hd, tks, if_pos hb]

/-- Between two rounds. -/
structure CMid (s : Wd) (w wr : World) (v : Value) (p : Nat) (L : List Wrd) (Z : Except Nat (List (Wd × Nat))) : Prop where
  row : wr.ownsRow (w.heap.size + 1) 89 3 v L.length (wcells L)
  nu : Nu w wr
  res : wr.heap[w.heap.size]? = some (.cells #[.int .i64 0, .int .i64 0] 34 (0, 0))
  hi : p ≤ s.length
  le : L.length ≤ p
  nb : ∀ c, s[p]? = some c → isBl c = false
  spec : ∃ g acc, Wrs L acc ∧ s.length - p < g ∧ catW acc (tks g p (s.drop p)) = Z

theorem CMid.go {s : Wd} {w wr wr' : World} {v : Value} {p : Nat} {L : List Wrd} {Z : Except Nat (List (Wd × Nat))} (h : CMid s w wr v p L Z) (hm : Nu wr wr') : CMid s w wr' v p L Z :=
  ⟨by
    refine ⟨h.row.1, ?_⟩
    rcases h.row.2 with hn' | ⟨g, cap, cur, rfl, hb, hgg, rest⟩
    · exact .inl hn'
    · exact .inr ⟨g, cap, cur, rfl, hb, hm.heap hgg id, rest⟩, mv0 h.nu hm, hm.heap h.res id, h.hi, h.le, h.nb, h.spec⟩

theorem tw_nb (s : Wd) (p : Nat) : ∀ c, s[tw isBl s p]? = some c → isBl c = false := by
  intro c hc
  have h1 : (s.drop p)[((s.drop p).takeWhile isBl).length]? = some c := by
    rw [List.getElem?_drop]
    exact hc
  cases hb : isBl c with
  | false => rfl
  | true =>
    exfalso
    have := List.takeWhile_append_dropWhile (p := isBl) (l := s.drop p)
    have hdw : (s.drop p).dropWhile isBl ≠ [] ∧ ((s.drop p).dropWhile isBl).head? = some c := by
      have h2 : ((s.drop p).takeWhile isBl ++ (s.drop p).dropWhile isBl)[((s.drop p).takeWhile isBl).length]? = some c := by rw [this]; exact h1
      rw [List.getElem?_append_right (Nat.le_refl _), Nat.sub_self] at h2
      cases hq : (s.drop p).dropWhile isBl with
      | nil => rw [hq] at h2; simp at h2
      | cons a r => rw [hq] at h2; simp at h2; subst h2; simp
    have := List.head?_dropWhile_not isBl (s.drop p)
    rw [hdw.2] at this
    simp [hb] at this

theorem CMid.done {s : Wd} {w wr : World} {v : Value} {p : Nat} {L : List Wrd} {Z : Except Nat (List (Wd × Nat))} (h : CMid s w wr v p L Z) (hp : ¬ p < s.length) : ∃ acc, Wrs L acc ∧ Z = .ok acc := by
  obtain ⟨g, acc, h1, h2, h3⟩ := h.spec
  have : s.drop p = [] := List.drop_of_length_le (by omega)
  rw [this] at h3
  cases g with
  | zero => omega
  | succ g => simp [tks, catW] at h3; exact ⟨acc, h1, h3.symm⟩

theorem CMid.bad {s : Wd} {w wr : World} {v : Value} {p : Nat} {L : List Wrd} {Z : Except Nat (List (Wd × Nat))} (h : CMid s w wr v p L Z) (hp : p < s.length) (ho : Q.one (s.drop p) = none) : Z = .error p := by
  obtain ⟨g, acc, h1, h2, h3⟩ := h.spec
  obtain ⟨c, hc⟩ : ∃ c, s[p]? = some c := ⟨_, List.getElem?_eq_getElem hp⟩
  have hd : s.drop p = c :: s.drop (p + 1) := by
    obtain ⟨hp, rfl⟩ := List.getElem?_eq_some_iff.1 hc
    exact List.drop_eq_getElem_cons hp
  cases g with
  | zero => omega
  | succ g =>
    rw [hd] at ho
    rw [hd, tks, if_neg (by rw [h.nb c hc]; simp), ho] at h3
    exact h3.symm

theorem CMid.word {s : Wd} {w wr : World} {v : Value} {p : Nat} {L : List Wrd} {Z : Except Nat (List (Wd × Nat))} {u : Wd} {x : Wrd} (h : CMid s w wr v p L Z) (hp : p < s.length) (ho : Q.one (s.drop p) = some u) (hx : Wr x (canon u, p)) (hle : p + u.length ≤ s.length) (hpos : 0 < u.length)
    {wr' : World} {v' : Value} (hr : wr'.ownsRow (w.heap.size + 1) 89 3 v' (L.length + 1) (wcells L ++ [.int .i64 x.k, .int .i64 (x.at' : Int), .string (strOfL x.nm)])) (hn : Nu w wr') (hres : wr'.heap[w.heap.size]? = some (.cells #[.int .i64 0, .int .i64 0] 34 (0, 0))) :
    CMid s w wr' v' (tw isBl s (p + u.length)) (L ++ [x]) Z := by
  obtain ⟨g, acc, h1, h2, h3⟩ := h.spec
  obtain ⟨c, hc⟩ : ∃ c, s[p]? = some c := ⟨_, List.getElem?_eq_getElem hp⟩
  have hd : s.drop p = c :: s.drop (p + 1) := by
    obtain ⟨hp, rfl⟩ := List.getElem?_eq_some_iff.1 hc
    exact List.drop_eq_getElem_cons hp
  cases g with
  | zero => omega
  | succ g =>
    have hdd : (s.drop p).drop u.length = s.drop (p + u.length) := by rw [List.drop_drop]
    have ho' := ho
    rw [hd] at ho'
    rw [hd, tks, if_neg (by rw [h.nb c hc]; simp), ho', ← hd] at h3
    simp only at h3
    rw [hdd] at h3
    obtain ⟨g', k1, k2⟩ := tks_blanks s _ (p + u.length) g (by omega) hle rfl
    rw [k2] at h3
    have hge := tw_ge isBl s (p + u.length)
    refine ⟨by rw [wcells_app, List.length_append]; exact hr, hn, hres, tw_le _ _ _ hle, by have := h.le; simp; omega, tw_nb s _, g', acc ++ [(canon u, p)], Wrs.app h1 hx, k1, ?_⟩
    rw [← h3]
    cases tks g' (tw isBl s (p + u.length)) (s.drop (tw isBl s (p + u.length))) with
    | ok l => simp [catW]
    | error e => rfl

theorem CMid.start {s : Wd} {w wr : World} (hn : Nu w wr) (hres : wr.heap[w.heap.size]? = some (.cells #[.int .i64 0, .int .i64 0] 34 (0, 0))) : CMid s w wr (.slice none 0 0) (tw isBl s 0) [] (tokens s) := by
  obtain ⟨g', k1, k2⟩ := tks_blanks s _ 0 (s.length + 1) (by omega) (by omega) rfl
  refine ⟨World.ownsRow_nil _ _ _ _, hn, hres, tw_le _ _ _ (by omega), by simp, tw_nb s _, g', [], trivial, k1, ?_⟩
  unfold tokens
  have k3 : tks (s.length + 1) 0 s = tks g' (tw isBl s 0) (s.drop (tw isBl s 0)) := k2
  rw [k3]
  cases tks g' (tw isBl s 0) (s.drop (tw isBl s 0)) <;> rfl

/-- What is given of a text's words. -/
def CutOut (s : Wd) (w w' : World) (e : Ending) : Prop :=
  match tokens s with
  | .error p => e = .returned (.tuple #[.slice none 0 0, .agg #[.int .i64 90, .int .i64 (p : Int)]])
  | .ok acc => ∃ v L, e = .returned (.tuple #[v, .agg #[.int .i64 0, .int .i64 0]]) ∧ Wrs L acc ∧ L.length ≤ s.length ∧ w'.ownsRow w.heap.size 89 3 v L.length (wcells L)

theorem row_base {w : World} {b b' : Nat} {e : TypeId} {size : Nat} {v : Value} {n : Nat} {xs : List Value} (h : w.ownsRow b e size v n xs) (hb : b' ≤ b) : w.ownsRow b' e size v n xs := by
  refine ⟨h.1, ?_⟩
  rcases h.2 with hn' | ⟨g, cap, cur, rfl, hb', rest⟩
  · exact .inl hn'
  · exact .inr ⟨g, cap, cur, rfl, Nat.le_trans hb hb', rest⟩

theorem own_ge {w : World} {b : Nat} {e : TypeId} {size : Nat} {v : Value} {n : Nat} {xs : List Value} (h : w.ownsRow b e size v n xs) {y : Nat} (hy : v.ownBlock = some y) : b ≤ y := by
  rcases h.2 with ⟨rfl, _⟩ | ⟨g, cap, cur, rfl, hb', rest⟩
  · cases hy
  · obtain rfl : g = y := by injection hy
    exact hb'

theorem slice_form {w : World} {b : Nat} {e : TypeId} {size : Nat} {v : Value} {n : Nat} {xs : List Value} (h : w.ownsRow b e size v n xs) : ∃ ao cap, v = .slice ao n cap := by
  rcases h.2 with ⟨rfl, rfl⟩ | ⟨g, cap, cur, rfl, _⟩
  · exact ⟨none, 0, rfl⟩
  · exact ⟨_, cap, rfl⟩

theorem set2 {w : World} {g : Nat} {x y : Value} {t : TypeId} (h : w.heap[g]? = some (.cells #[x, y] t (0, 0))) (a b : Value) :
    Mv (· = g) w ((w.setCell ⟨g, 0, none⟩ a).setCell ⟨g, 1, none⟩ b) ∧ ((w.setCell ⟨g, 0, none⟩ a).setCell ⟨g, 1, none⟩ b).heap[g]? = some (.cells #[a, b] t (0, 0)) :=
  ⟨(Mv.setCell w ⟨g, 0, none⟩ a).trans (Mv.setCell _ ⟨g, 1, none⟩ b) (fun _ h => .inl h), by rw [setCell_blk (setCell_blk h)]; rfl⟩

set_option maxHeartbeats 4000000 in
theorem cut_any (s : Wd) (hs : s.length ≤ 4096) (w : World) (hG : Gl w) : Calls Tryd.prog 25 #[.string (strOfL s)] w fun e w' => Nu w w' ∧ CutOut s w w' e := by
  obtain ⟨i0, hi0⟩ := info_parts (P := Tryd.prog) (e := 89) (z := .agg #[.int .i64 0, .int .i64 0, .string ⟨#[]⟩]) (size := 3) (bytes := 32) (by kernel_rfl)
  have HI0 := hid hi0
  have HBl := hid (fun p (hp : p ≤ s.length) W => behindBlanks_any s p (by omega) hp W)
  have HWd := hid (fun p (hp : p < s.length) W (hW : Nu w W) => wordAt_any s p (by omega) hp W (hG.nu hW))
  have HSZ := hid (str_size s)
  have HS := hid hs
  have hss : (strOfL s).size ≤ 4096 := by rw [str_size]; exact hs
  clear hi0 hG hs
  go_enter Tryd.func25, Tryd.ntmps25
  go_wp2_with fail
  have hM1 : Nu w (w.alloc (.cells #[.int .i64 0, .int .i64 0] 34)) := Mv.alloc _ _ _
  have hb1 := heap_alloc_new w (.cells #[.int .i64 0, .int .i64 0] 34)
  generalize hW : World.alloc _ _ = W1 at hM1 hb1 ⊢
  clear hW
  have HC1 := hid (CMid.start (s := s) hM1 hb1)
  have HZ : Hid (tokens s = tokens s) := rfl
  clear hM1 hb1
  have hz0 : (0 : Int) = ((0 : Nat) : Int) := rfl
  rw [hz0]
  refine Calls.mono (HBl.out 0 (by omega) W1) ?_
  rintro e w1 ⟨rfl, hw1⟩
  rw [hw1]
  clear hw1 w1 hz0
  go_wp2_with fail
  go_loopw [4, 5] (fun vv pv wr => ∃ (p : Nat) (L : List Wrd) (ao : Option Addr) (cap : Nat), p ≤ s.length ∧ vv = .slice ao L.length cap ∧ pv = .int .i64 (p : Int) ∧ Hid (CMid s w wr (.slice ao L.length cap) p L (tokens s))) (fun _ pv _ => s.length - (intOf pv).toNat)
  case atStart => exact ⟨tw isBl s 0, [], none, 0, HC1.out.hi, rfl, rfl, HC1⟩
  case round =>
    obtain ⟨p, L, ao, cap, hp, rfl, rfl, HC⟩ := hrel
    clear HC1 HZ
    by_cases hj : p < s.length
    · have hj' : (p : Int) < ((strOfL s).size : Int) := by have := HSZ.out; omega
      go_wp2_with fail
      refine Calls.mono (HWd.out p hj wr HC.out.nu) ?_
      rintro e w2 ⟨rfl, hm2⟩
      have HC2 := hid (HC.out.go hm2)
      have HM2 := hid hm2
      clear hm2
      rcases wAt_one (by have := HS.out; omega) hj with ⟨ho, he⟩ | ⟨u, ho, he, hpos, hle, hwr⟩
      · rw [he]
        have HE := hid (HC2.out.bad hj ho)
        generalize (wAt s p).1 = x
        obtain ⟨xk, xa, xn⟩ := x
        unfold Wrd.val
        simp only
        have hrb := HC2.out.res
        have r0 : w2.cell? ⟨w.heap.size, 0, none⟩ = some (.int .i64 0) := by rw [cell_blk hrb]; rfl
        have r1 : w2.cell? ⟨w.heap.size, 1, none⟩ = some (.int .i64 0) := by rw [cell_blk hrb]; rfl
        have f0 := free_blk hrb 0
        have f1 := free_blk hrb 1
        have hlt := lt_of_block hrb
        have HRb := hid hrb
        clear hrb ho he
        go_wp2_with fail
        obtain ⟨h3, h4⟩ := set2 HRb.out (.int .i64 90) (.int .i64 (p : Int))
        generalize hW : World.setCell _ _ _ = W2 at h3 h4 ⊢
        have h5 := (Mv.alloc (fun _ => False) W2 (.cells #[.int .i64 xk, .int .i64 (xa : Int), .string (strOfL xn)] 89)).heap h4 id
        replace h3 := h3.trans (Mv.alloc (fun _ => False) W2 (.cells #[.int .i64 xk, .int .i64 (xa : Int), .string (strOfL xn)] 89)) (fun _ h => h.elim)
        have HMx := hid HC2.out.nu
        generalize hW' : World.alloc _ _ = W3 at h3 h5 ⊢
        have y0 : W3.cell? ⟨w.heap.size, 0, none⟩ = some (.int .i64 90) := by rw [cell_blk h5]; rfl
        have y1 : W3.cell? ⟨w.heap.size, 1, none⟩ = some (.int .i64 (p : Int)) := by rw [cell_blk h5]; rfl
        refine bodyPost_ret (v := .tuple #[.slice none 0 0, .agg #[.int .i64 90, .int .i64 (p : Int)]]) (by simp [results, Tryd.results25, go_sem, y0, y1]) rfl ?_
        refine ⟨HMx.out.trans h3 (fun x hx => .inr (by omega)), ?_⟩
        unfold CutOut
        rw [HE.out]
      · rw [he]
        generalize hxx : (wAt s p).1 = x at hwr
        obtain ⟨xk, xa, xn⟩ := x
        unfold Wrd.val
        simp only
        have HX := hid hwr
        have HO := hid ho
        have HLE := hid hle
        have HPos := hid hpos
        have hne : ¬ ((p + u.length : Nat) : Int) = (p : Int) := by omega
        have HLeP := hid HC2.out.le
        have hrow := HC2.out.row
        have hu0 : p + u.length ≤ s.length := hle
        clear ho he hwr hpos hle
        go_upto_region 7 with fail
        have hbx := heap_alloc_new w2 (.cells #[.int .i64 xk, .int .i64 (xa : Int), .string (strOfL xn)] 89)
        have hM3 : Nu w2 (w2.alloc (.cells #[.int .i64 xk, .int .i64 (xa : Int), .string (strOfL xn)] 89)) := Mv.alloc _ _ _
        generalize hW : World.alloc _ _ = W3 at hbx hM3 ⊢
        clear hW
        have b0 : W3.cell? ⟨w2.heap.size, 0, none⟩ = some (.int .i64 xk) := by rw [cell_blk hbx]; rfl
        have b1 : W3.cell? ⟨w2.heap.size, 1, none⟩ = some (.int .i64 (xa : Int)) := by rw [cell_blk hbx]; rfl
        have b2 : W3.cell? ⟨w2.heap.size, 2, none⟩ = some (.string (strOfL xn)) := by rw [cell_blk hbx]; rfl
        have HC3 := hid (HC2.out.go hM3)
        have HR3 := hid HC3.out.row
        have HSz : Hid (w.heap.size + 1 ≤ W3.heap.size) := by have := lt_of_block HC3.out.res; show _ ≤ _; omega
        clear hbx hM3 hrow
        go_wp2_with (at_builtin; refine wpList_append_lies _ rfl _ _ _ rfl (w.heap.size + 1) 89 i0 (.agg #[.int .i64 0, .int .i64 0, .string ⟨#[]⟩]) 3 32 Tryd.underlying55 HI0.out.1 HI0.out.2.1 HI0.out.2.2.1 HI0.out.2.2.2 rfl (by omega) (.slice ao L.length cap) L.length (wcells L) rfl (HR3.out.alloc _) ⟨W3.heap.size, 0, none⟩ 1 1 [.int .i64 xk, .int .i64 (xa : Int), .string (strOfL xn)] rfl rfl (World.news_of_block (heap_alloc_new W3 _)) (by simp [Value.oneCell']) (by decide) (by have := HLeP.out; have := HS.out; unfold maxLen; omega) (by have := HLeP.out; have := HS.out; omega) (by have := HSz.out; simp; omega) (W3.heap.size + 1) (by simp) ?_; intro g5 cap5 w5 hown hgrow hat hg5)
        have hm5 : Mv (fun y => w.heap.size + 1 ≤ y) W3 w5 := ((Mv.alloc (fun _ => False) W3 _).mono (fun _ h => h.elim)).trans (Mv.grown hgrow) (fun y hy => .inl (own_ge HR3.out hy))
        have HC5 := hid (HC3.out.word (x := ⟨xk, xa, xn⟩) hj HO.out HX.out HLE.out HPos.out hown (HC3.out.nu.trans hm5 (fun y hy => .inr (by omega))) (hm5.heap HC3.out.res (by omega)))
        clear hown hgrow hat hg5 hm5
        have hbl := HBl.out (p + u.length) HLE.out w5
        rw [Int.natCast_add] at hbl
        refine Calls.mono hbl ?_
        rintro e w6 ⟨rfl, hw6⟩
        rw [hw6]
        clear hw6 w6 hbl
        go_wp2_with fail
        go_roundw
        case rel => exact ⟨tw isBl s (p + u.length), L ++ [⟨xk, xa, xn⟩], some ⟨g5, 0, none⟩, cap5, HC5.out.hi, by simp, rfl, by rw [List.length_append]; exact HC5⟩
        case measure => have h1 := tw_ge isBl s (p + u.length); have h2 := HPos.out; simp [intOf]; omega
    · have hj' : ¬ (p : Int) < ((strOfL s).size : Int) := by have := HSZ.out; omega
      have hrb := HC.out.res
      have r0 : wr.cell? ⟨w.heap.size, 0, none⟩ = some (.int .i64 0) := by rw [cell_blk hrb]; rfl
      have r1 : wr.cell? ⟨w.heap.size, 1, none⟩ = some (.int .i64 0) := by rw [cell_blk hrb]; rfl
      have f0 := free_blk hrb 0
      have f1 := free_blk hrb 1
      have hlt := lt_of_block hrb
      have HRb := hid hrb
      have HD := hid (HC.out.done hj)
      clear hrb
      go_wp2_with fail
      obtain ⟨h3, h4⟩ := set2 HRb.out (.int .i64 0) (.int .i64 0)
      generalize hW : World.setCell _ _ _ = W3 at h3 h4 ⊢
      have y0 : W3.cell? ⟨w.heap.size, 0, none⟩ = some (.int .i64 0) := by rw [cell_blk h4]; rfl
      have y1 : W3.cell? ⟨w.heap.size, 1, none⟩ = some (.int .i64 0) := by rw [cell_blk h4]; rfl
      refine bodyPost_ret (v := .tuple #[.slice ao L.length cap, .agg #[.int .i64 0, .int .i64 0]]) (by simp [results, Tryd.results25, go_sem, y0, y1]) rfl ?_
      refine ⟨HC.out.nu.trans h3 (fun x hx => .inr (by omega)), ?_⟩
      obtain ⟨acc, ha, hz⟩ := HD.out
      unfold CutOut
      rw [hz]
      refine ⟨_, L, rfl, ha, by have := HC.out.le; omega, ?_⟩
      have hr := HC.out.row
      refine row_base (b := w.heap.size + 1) ⟨hr.1, ?_⟩ (by omega)
      rcases hr.2 with hn' | ⟨g, cap', cur, hv, hb, hgg, rest⟩
      · exact .inl hn'
      · exact .inr ⟨g, cap', cur, hv, hb, h3.heap hgg (by omega), rest⟩

end Go.Proofs.YtidihaecgmbhpabDoor
