/-
  QDepths.
-/
import Derived.Test.YtidihaecgmbhpabDoorM10
import Derived.Test.YtidihaecgmbhpabDoorM9
/-
  LtlDepths answers true, whatever the numbers.
-/
set_option linter.unusedSimpArgs false
namespace Go.Proofs.YtidihaecgmbhpabDoor
open Go.RowKit Q

def sgs : List Wd := [[33], [88, 32], [91, 93], [60, 62]]
def uAt : Nat → U | 0 => .not | 1 => .next | 2 => .always | _ => .fin
theorem sgs_at {j : Nat} (h : j < 4) : sgs[j]? = some (sg (uAt j)) := by
  have : j = 0 ∨ j = 1 ∨ j = 2 ∨ j = 3 := by omega
  rcases this with rfl | rfl | rfl | rfl <;> rfl

/-- Signs, one behind the other. -/
def Sgn (i : Nat) (v : Value) : Prop := ∃ us : List U, us.length = i ∧ v = .string (strOfL (signsT us))
theorem signs_len (us : List U) : (signsT us).length ≤ 2 * us.length := by
  induction us with
  | nil => simp [signsT]
  | cons a us ih =>
    have : (sg a).length ≤ 2 := by cases a <;> decide
    simp only [signsT, List.flatMap_cons, List.length_append, List.length_cons] at ih ⊢
    omega
theorem signs_snoc (us : List U) (o : U) : signsT (us ++ [o]) = signsT us ++ sg o := by simp [signsT]

theorem small_of {l : Wd} (h : l.length ≤ 100000) : Small (strOfL l) := by unfold Small; simp [strOfL, ByteArray.size]; omega

theorem depths_end (us : List U) (D K : Nat) (hD : us.length = D) (hd : D < 200) (hk : K < 200) : (D ≥ 100 → pc (signsT us ++ parens K [112]) = (93, 0)) ∧ (¬ D ≥ 100 → pc (signsT us ++ parens K [112]) = (0, 0)) := by
  have hl : (signsT us ++ parens K [112]).length ≤ 4096 := by
    have := signs_len us
    simp only [parens, List.length_append, List.length_replicate, List.length_cons, List.length_nil]
    omega
  have h := parse_signs us K hl
  refine ⟨fun hg => ?_, fun hg => ?_⟩
  · rw [if_pos (by omega)] at h
    unfold pc
    rw [h]
  · rw [if_neg (by omega)] at h
    exact (pc_ok h).1

theorem wrap_in (x : Int) : -9223372036854775808 ≤ wrap64 x ∧ wrap64 x ≤ 9223372036854775807 := by unfold wrap64; omega

set_option maxHeartbeats 16000000 in
theorem LtlDepths_walk (H : Cons) (n k s : Int) (hn : -9223372036854775808 ≤ n ∧ n ≤ 9223372036854775807) (hk : -9223372036854775808 ≤ k ∧ k ≤ 9223372036854775807) (_ : -9223372036854775808 ≤ s ∧ s ≤ 9223372036854775807) (w : World) (hG : G3 w) :
    Looks 6 #[.int .i64 n, .int .i64 k, .int .i64 s] w (.bool true) := by
  have HC := hid H
  have HG := hid hG
  have HK := hid (fun W (hW : Nu w W) => known_any H W (hG.nu hW))
  have HPA := hid (fun (x : Wd) (hx : x.length ≤ 140737488355328) W (hW : Nu w W) => H.parse x hx W (hG.nu hW))
  have HP1 := hid (fun W => pick_any n 200 W hn.1 hn.2 (by omega) (by omega))
  have HP2 := hid (fun W => pick_any k 200 W hk.1 hk.2 (by omega) (by omega))
  have HP3 := hid (fun W c (hc : -9223372036854775808 ≤ c ∧ c ≤ 9223372036854775807) => pick_any c 4 W hc.1 hc.2 (by omega) (by omega))
  obtain ⟨D, hD⟩ : ∃ D : Nat, pickN n 200 = (D : Int) := ⟨(pickN n 200).toNat, by have := pickN_lo n (n := 200) (by omega); omega⟩
  obtain ⟨K, hK⟩ : ∃ K : Nat, pickN k 200 = (K : Int) := ⟨(pickN k 200).toNat, by have := pickN_lo k (n := 200) (by omega); omega⟩
  have hD2 : D < 200 := by have := pickN_hi n (n := 200) (by omega); omega
  have hK2 : K < 200 := by have := pickN_hi k (n := 200) (by omega); omega
  rw [hD] at HP1
  rw [hK] at HP2
  clear H hG hn hk hD hK
  unfold Looks
  go_enter Tryd.func6, Tryd.ntmps6
  go_wp2_with fail
  refine Calls.mono (HP1.out w) ?_
  rintro e w' ⟨rfl, hw⟩
  subst hw
  go_wp2_with fail
  refine Calls.mono (HP2.out _) ?_
  rintro e w'' ⟨rfl, hw⟩
  subst hw
  go_wp2_with fail
  go_loopw [10, 11] (fun sv iv wr => ∃ i : Nat, i ≤ D ∧ iv = .int .i64 (i : Int) ∧ Hid (Tab w'' wr sgs) ∧ Hid (Sgn i sv)) (fun _ iv _ => D - (intOf iv).toNat)
  case atStart => exact ⟨0, Nat.zero_le _, rfl, tab w'' sgs 9, [], rfl, rfl⟩
  case round =>
    obtain ⟨i, hi, rfl, HT, us, hus, rfl⟩ := hrel
    by_cases hj : i < D
    · have hj' : (i : Int) < (D : Int) := by omega
      have HUS := hid hus
      clear hus
      have hsl := signs_len us
      have HSm : Small (strOfL (signsT us)) := small_of (by have := HUS.out; omega)
      obtain ⟨j, hj2⟩ : ∃ j : Nat, pickN (wrap64 (s + (i : Int))) 4 = (j : Int) := ⟨(pickN (wrap64 (s + (i : Int))) 4).toNat, by have := pickN_lo (wrap64 (s + (i : Int))) (n := 4) (by omega); omega⟩
      have hj4 : j < 4 := by have := pickN_hi (wrap64 (s + (i : Int))) (n := 4) (by omega); omega
      have hj5 : (j : Int) < 4 := by omega
      have HPP := hid (fun W => HP3.out W (wrap64 (s + (i : Int))) (wrap_in _))
      rw [hj2] at HPP
      have hcell := HT.out.at' j _ (sgs_at hj4)
      have HS2 : Small (strOfL (sg (uAt j))) := small_of (by generalize uAt j = o; cases o <;> decide)
      clear hsl hj2
      go_wp2_with fail
      refine Calls.mono (HPP.out _) ?_
      rintro e w3 ⟨rfl, hw⟩
      subst hw
      go_wp2_with fail
      go_roundw
      case rel => exact ⟨i + 1, hj, by go_num, HT, us ++ [uAt j], by simp [HUS.out], by rw [signs_snoc, str_app]⟩
      case measure => simp [intOf]; omega
    · have hj' : ¬ (i : Int) < (D : Int) := by omega
      have hiD : i = D := by omega
      subst hiD
      have HUS := hid hus
      have HNW := hid HT.out.mv
      have HSL := hid (signs_len us)
      clear hus HT
      go_wp2_with fail
      go_loopw [10, 12] (fun sv iv wk => ∃ j : Nat, j ≤ K ∧ iv = .int .i64 (j : Int) ∧ sv = .string (strOfL (signsT us ++ List.replicate j 40)) ∧ Hid (Nu w'' wk)) (fun _ iv _ => K - (intOf iv).toNat)
      case atStart => exact ⟨0, Nat.zero_le _, rfl, by simp, HNW⟩
      case round =>
        obtain ⟨j, hjK, rfl, rfl, HN2⟩ := hrel
        have HSm : Small (strOfL (signsT us ++ List.replicate j 40)) := small_of (by have h1 := HUS.out; have h2 := HSL.out; simp only [List.length_append, List.length_replicate]; omega)
        have HS1 : Small ⟨#[40]⟩ := by unfold Small; decide
        by_cases hjj : j < K
        · have hjj' : (j : Int) < (K : Int) := by omega
          go_wp2_with fail
          go_roundw
          case rel => exact ⟨j + 1, hjj, by go_num, by rw [show (⟨#[40]⟩ : ByteArray) = strOfL [40] from rfl, str_app, List.append_assoc, ← List.replicate_succ'], HN2⟩
          case measure => simp [intOf]; omega
        · have hjj' : ¬ (j : Int) < (K : Int) := by omega
          have hjK2 : j = K := by omega
          subst hjK2
          have HS3 : Small ⟨#[112]⟩ := by unfold Small; decide
          go_wp2_with fail
          go_loopw [10, 13] (fun sv iv wk => ∃ q : Nat, q ≤ j ∧ iv = .int .i64 (q : Int) ∧ sv = .string (strOfL (signsT us ++ (List.replicate j 40 ++ [112] ++ List.replicate q 41))) ∧ Hid (Nu w'' wk)) (fun _ iv _ => j - (intOf iv).toNat)
          case atStart => exact ⟨0, Nat.zero_le _, rfl, by rw [show (⟨#[112]⟩ : ByteArray) = strOfL [112] from rfl, str_app]; simp, HN2⟩
          case round =>
            obtain ⟨q, hq, rfl, rfl, HN3⟩ := hrel
            have hll : (signsT us ++ (List.replicate j 40 ++ [112] ++ List.replicate q 41)).length ≤ 1000 := by have h1 := HUS.out; have h2 := HSL.out; simp only [List.length_append, List.length_replicate, List.length_cons, List.length_nil]; omega
            have HSq : Small (strOfL (signsT us ++ (List.replicate j 40 ++ [112] ++ List.replicate q 41))) := small_of (by omega)
            have HS4 : Small ⟨#[41]⟩ := by unfold Small; decide
            by_cases hqq : q < j
            · have hqq' : (q : Int) < (j : Int) := by omega
              clear hll
              obtain ⟨X, hX⟩ : ∃ X, strOfL (signsT us ++ (List.replicate j 40 ++ [112] ++ List.replicate q 41)) = X := ⟨_, rfl⟩
              rw [hX] at HSq ⊢
              have HXX := hid hX
              clear hX
              go_wp2_with fail
              go_roundw
              case rel => exact ⟨q + 1, hqq, by go_num, by rw [← HXX.out, show (⟨#[41]⟩ : ByteArray) = strOfL [41] from rfl, str_app, List.append_assoc, List.append_assoc, ← List.replicate_succ'], HN3⟩
              case measure => simp [intOf]; omega
            · have hqq' : ¬ (q : Int) < (j : Int) := by omega
              have hqj : q = j := by omega
              subst hqj
              have hend := depths_end us i q HUS.out hD2 hK2
              have hpp : signsT us ++ (List.replicate q 40 ++ [112] ++ List.replicate q 41) = signsT us ++ parens q [112] := rfl
              rw [hpp] at hll HSq ⊢
              have HPR := hid (HPA.out (signsT us ++ parens q [112]) (by omega))
              by_cases h100 : i ≥ 100
              · have h100' : (i : Int) ≥ 100 := by omega
                rw [hend.1 h100] at HPR
                dsimp only at HPR
                clear hend hpp hll
                go_wp2_with fail
                refine Calls.mono (HPR.out _ HN3.out) ?_
                rintro e w5 ⟨hm5, v, rfl, e0, e1, e2, m5, rfl, ht5, -⟩
                obtain ⟨k5, s5, a5, l5, cap5, rfl, rfl, rfl⟩ := ht5.cell3
                have HM5 := hid (mv0 HN3.out hm5)
                clear hm5 ht5
                go_upto_region 19 with fail
                have hB := box5 w5 (.int .i64 k5) (.string s5) (.slice a5 l5 cap5) (.int .i64 93) (.int .i64 0) 24 34
                generalize hW : World.alloc _ _ = W5 at hB ⊢
                obtain ⟨hn5, x0, x1, x2, y0, y1⟩ := hB
                have HM6 := hid (mv0 HM5.out hn5)
                clear hW hn5 x0 x1 x2
                go_wp2_with fail
                refine Calls.mono (HK.out _ HM6.out) ?_
                rintro e w6 ⟨rfl, hm6⟩
                go_wp2_with fail
                go_ret
                exact ⟨rfl, mv0 HM6.out hm6⟩
              · have h100' : ¬ (i : Int) ≥ 100 := by omega
                rw [hend.2 h100] at HPR
                dsimp only at HPR
                clear hend hpp hll
                go_wp2_with fail
                refine Calls.mono (HPR.out _ HN3.out) ?_
                rintro e w5 ⟨hm5, v, rfl, e0, e1, e2, m5, rfl, ht5, -⟩
                obtain ⟨k5, s5, a5, l5, cap5, rfl, rfl, rfl⟩ := ht5.cell3
                have HM5 := hid (mv0 HN3.out hm5)
                clear hm5 ht5
                go_upto_region 19 with fail
                have hB := box5 w5 (.int .i64 k5) (.string s5) (.slice a5 l5 cap5) (.int .i64 0) (.int .i64 0) 24 34
                generalize hW : World.alloc _ _ = W5 at hB ⊢
                obtain ⟨hn5, x0, x1, x2, y0, y1⟩ := hB
                have HM6 := hid (mv0 HM5.out hn5)
                clear hW hn5 x0 x1 x2
                go_wp2_with fail
                refine Calls.mono (HK.out _ HM6.out) ?_
                rintro e w6 ⟨rfl, hm6⟩
                go_wp2_with fail
                go_ret
                exact ⟨rfl, mv0 HM6.out hm6⟩

end Go.Proofs.YtidihaecgmbhpabDoor
