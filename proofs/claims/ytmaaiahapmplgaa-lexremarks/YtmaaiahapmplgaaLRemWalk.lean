/-
  The walk of the statement sextantlaw02.LexRemarks.
-/
import Derived.Test.YtmaaiahapmplgaaLShift
import Derived.Test.YtmaaiahapmplgaaLSign
import Derived.Test.YtmaaiahapmplgaaLDigits
import Derived.Deep.Cut
namespace Go.Proofs.Ytmaaiahapmplgaa
open Go.RowKit

/-- No remark's end begins ahead of i. -/
def NoEnd (r : ByteArray) (i : Nat) : Prop := ∀ j, j < i → ¬ ((bytesOf r)[j]? = some 42 ∧ (bytesOf r)[j + 1]? = some 47)

theorem noEnd_done {r : ByteArray} {i : Nat} (h : NoEnd r i) (hi : r.size ≤ i + 1) : remEnd (bytesOf r) = none := by
  cases hr : remEnd (bytesOf r) with
  | none => rfl
  | some k =>
    have h1 := remEnd_lt hr
    have h2 := remEnd_spot hr
    rw [bytesOf_length] at h1
    exact absurd h2 (h k (by omega))

theorem bytes_get (s : ByteArray) (k : Nat) (h : k < s.size) : (bytesOf s)[k]? = some s[k] := by
  rw [List.getElem?_eq_getElem (by rw [bytesOf_length]; exact h)]
  simp [bytesOf]; rfl

theorem noEnd_next {r : ByteArray} {i : Nat} (h : NoEnd r i) (hi : i + 1 < r.size) (hb : ((r.extract i (i + 2)).toList == [42, 47]) = false) : NoEnd r (i + 1) := by
  intro j hj ⟨h1, h2⟩
  by_cases hji : j < i
  · exact h j hji ⟨h1, h2⟩
  · have : j = i := by omega
    subst this
    rw [bytes_get r j (by omega)] at h1
    rw [bytes_get r (j + 1) hi] at h2
    rw [toList_bytes, bytes_two r j hi] at hb
    simp at h1 h2
    rw [h1, h2] at hb
    simp at hb

/-- What stands behind the remark, and before it. -/
theorem rem_bytes (t r : ByteArray) : bytesOf ((((⟨#[47, 42]⟩ : ByteArray) ++ r ++ ⟨#[32, 42, 47]⟩) ++ t) ++ ⟨#[32]⟩) = 47 :: 42 :: (bytesOf r ++ 32 :: 42 :: 47 :: bytesOf (t ++ ⟨#[32]⟩)) := by
  simp only [bytes_append]
  have h1 : bytesOf ⟨#[47, 42]⟩ = [47, 42] := rfl
  have h2 : bytesOf ⟨#[32, 42, 47]⟩ = [32, 42, 47] := rfl
  rw [h1, h2]
  simp

set_option maxHeartbeats 8000000 in
set_option maxRecDepth 100000 in
theorem LexRemarks_walk (t r : ByteArray) (ht : t.size ≤ 140737488355328) (hr : r.size ≤ 140737488355328) (w : World) (hG : G w) :
    Calls Try.prog 8 #[.string t, .string r] w fun e w' => e = .returned (.bool true) ∧ Kept [] w w' := by
  have htb : (t.size : Int) ≤ 140737488355328 := by omega
  have hrb : (r.size : Int) ≤ 140737488355328 := by omega
  have HT : Hid _ := htb
  clear ht hr htb
  go_enter Try.func8, Try.ntmps8
  go_wp2_with (first
    | (go_at_call 9; refine (awake_any _ hG).mono ?_; rintro e w1 ⟨rfl, hka⟩))
  go_loop [6] (fun iv => ∃ i : Nat, i ≤ r.size ∧ iv = .int .i64 (i : Int) ∧ NoEnd r i) (fun iv => r.size - (intOf iv).toNat)
  case atStart => exact ⟨0, Nat.zero_le _, rfl, fun j hj => by omega⟩
  case round =>
    obtain ⟨i, hir, rfl, hN⟩ := hrel
    have HN : Hid _ := hN
    clear hN
    by_cases hlt : i + 1 < r.size
    · have hlt' : (i : Int) + 1 < (r.size : Int) := by omega
      have h0 : (0 : Int) ≤ (i : Int) := by omega
      cases hb : ((r.extract i (i + 2)).toList == [42, 47]) with
      | true =>
        go_wp2
        go_ret
        exact ⟨rfl, hka⟩
      | false =>
        have HB : Hid _ := hb
        go_wp2
        go_round
        case rel => exact ⟨i + 1, by omega, by go_num, noEnd_next HN.out hlt HB.out⟩
        case measure => simp [intOf]; omega
    · have hlt' : ¬ (i : Int) + 1 < (r.size : Int) := by omega
      have HRe : Hid (remEnd (bytesOf r) = none) := noEnd_done HN.out (by omega)
      have hbt := HT.out
      obtain ⟨A, hA⟩ : ∃ A : Int, (t.size : Int) = A := ⟨_, rfl⟩
      have hA0 : 0 ≤ A := by omega
      have hA1 : A ≤ 140737488355328 := by omega
      clear hbt
      by_cases hr0 : r.size = 0
      · have hr0' : (r.size : Int) = 0 := by omega
        have hi0 : i = 0 := by omega
        subst hi0
        by_cases hbig : 65536 < t.size + r.size + 6
        · have h6 : 65536 < A + 6 := by omega
          clear hbig hlt' hrb hir hlt
          go_wp2
          go_ret
          exact ⟨rfl, hka⟩
        · have HSum : Hid (t.size + r.size + 6 ≤ 65536) := by show _ ≤ _; omega
          have h6 : A + 6 ≤ 65536 := by omega
          clear hbig hlt' hrb hir hlt hA1
          go_upto_region 11 with fail
          have hG1 := hG.kept hka
          have hxs : (bytesOf (t ++ ⟨#[32]⟩)).length = t.size + 1 := by rw [bytesOf_length, size_append]; rfl
          have q1 : (((⟨#[47, 42]⟩ : ByteArray) ++ r).size : Int) = (0 : Int) + 2 := by rw [size_append]; have : (⟨#[47, 42]⟩ : ByteArray).size = 2 := rfl; omega
          have q2 : (((⟨#[47, 42]⟩ : ByteArray) ++ r ++ ⟨#[32, 42, 47]⟩).size : Int) = (0 : Int) + 5 := by rw [size_append, size_append]; have : (⟨#[47, 42]⟩ : ByteArray).size = 2 := rfl; have : (⟨#[32, 42, 47]⟩ : ByteArray).size = 3 := rfl; omega
          have q3 : ((((⟨#[47, 42]⟩ : ByteArray) ++ r ++ ⟨#[32, 42, 47]⟩) ++ t).size : Int) = (0 : Int) + 5 + A := by rw [size_append, size_append, size_append]; have : (⟨#[47, 42]⟩ : ByteArray).size = 2 := rfl; have : (⟨#[32, 42, 47]⟩ : ByteArray).size = 3 := rfl; omega
          have HTa : Hid (∀ w, G w → Calls Try.prog 10 #[.string (t ++ ⟨#[32]⟩)] w (TokOut 33 w (tokens (bytesOf (t ++ ⟨#[32]⟩))))) := fun w hG => Tokens_any _ w hG
          have HTb : Hid (∀ w, G w → Calls Try.prog 10 #[.string ((((⟨#[47, 42]⟩ : ByteArray) ++ r ++ ⟨#[32, 42, 47]⟩) ++ t) ++ ⟨#[32]⟩)] w (TokOut 33 w (shE (r.size + 5) (tokens (bytesOf (t ++ ⟨#[32]⟩)))))) := fun w hG => by
            have h1 := Tokens_any ((((⟨#[47, 42]⟩ : ByteArray) ++ r ++ ⟨#[32, 42, 47]⟩) ++ t) ++ ⟨#[32]⟩) w hG
            rw [rem_bytes, tokens_remark HRe.out (by rw [bytesOf_length, hxs]; have := HSum.out; omega), bytesOf_length] at h1
            exact h1
          cases hX : tokens (bytesOf (t ++ ⟨#[32]⟩)) with
          | error y =>
            obtain ⟨ec, ek⟩ := y
            rw [hX] at HTa HTb
            have hec := tokens_code hX
            have hek := tokens_err hX
            rw [hxs] at hek
            obtain ⟨E, hE⟩ : ∃ E : Int, (ek : Int) = E := ⟨_, rfl⟩
            have hE0 : 0 ≤ E := by omega
            have hE1 : E ≤ A + 1 := by omega
            clear hX hxs hek
            go_wp2_with fail
            refine (HTa.out _ hG1).mono ?_
            rintro e w2 ⟨rfl, hk2⟩
            have hG2 := (hG1.kept hk2).kept (Kept.alloc [] w2 (.cells #[.int .i64 (ec : Int), .int .i64 (ek : Int)] 26))
            go_wp2_with fail
            rw [hE] at hG2
            refine (HTb.out _ hG2).mono ?_
            rintro e w3 ⟨rfl, hk3⟩
            have b8 := hk3.heap (heap_alloc_new w2 _) (by simp)
            have d0 := cell_blk b8 0
            have d1 := cell_blk b8 1
            simp at d0 d1
            have hlt8 := lt_of_block b8
            go_wp2
            go_ret
            exact ⟨by first | rfl | exact ret_bool (by rw [beq_iff_eq]; omega), (((hka.trans hk2 (by simp)).trans (Kept.alloc [] _ _) (by simp)).trans hk3 (by simp)).trans (Kept.alloc [] _ _) (by simp)⟩
          | ok ts =>
            rw [hX] at HTa HTb
            obtain ⟨hin, htl⟩ := tokens_in hX
            rw [hxs] at hin htl
            have HIn : Hid _ := hin
            have htl2 : (ts.length : Int) ≤ A + 1 := by omega
            have HBr : Hid ((r.size : Int) = (0 : Int)) := by show _ = _; omega
            clear hX hxs hin htl
            go_wp2_with fail
            refine (HTa.out _ hG1).mono ?_
            rintro e w2 ⟨v1, rfl, hrow1, hk2⟩
            obtain ⟨ao1, cap1, rfl⟩ := row_form hrow1
            have hG2 := (hG1.kept hk2).kept (Kept.alloc [] w2 (.cells #[.int .i64 0, .int .i64 0] 26))
            go_wp2_with fail
            refine (HTb.out _ hG2).mono ?_
            rintro e w3 ⟨v2, rfl, hrow2, hk3⟩
            obtain ⟨ao2, cap2, rfl⟩ := row_form hrow2
            rw [List.length_map] at hrow2 ⊢
            have b8 := hk3.heap (heap_alloc_new w2 _) (by simp)
            have d0 := cell_blk b8 0
            have d1 := cell_blk b8 1
            simp at d0 d1
            have hlt8 := lt_of_block b8
            have hr1 := (Kept.alloc [] w3 (.cells #[.int .i64 0, .int .i64 0] 26)).row (hk3.row ((Kept.alloc [] w2 (.cells #[.int .i64 0, .int .i64 0] 26)).row hrow1 (by simp)) (by simp)) (by simp)
            have hr2 := (Kept.alloc [] w3 (.cells #[.int .i64 0, .int .i64 0] 26)).row hrow2 (by simp)
            have HR1 : Hid _ := hr1
            have HR2 : Hid _ := hr2
            have HKW : Hid (Kept [] w (w3.alloc (.cells #[.int .i64 0, .int .i64 0] 26))) := (((hka.trans hk2 (by simp)).trans (Kept.alloc [] _ _) (by simp)).trans hk3 (by simp)).trans (Kept.alloc [] _ _) (by simp)
            clear hrow1 hrow2 hr1 hr2 hka hk2 hk3 hG2 hG1
            go_wp2
            obtain ⟨W4, hW4⟩ : ∃ W4, w3.alloc (.cells #[.int .i64 0, .int .i64 0] 26) = W4 := ⟨_, rfl⟩
            rw [hW4] at HR1 HR2 HKW ⊢
            clear hW4 b8 d0 d1 hlt8
            go_loopw [11] (fun iv wr => ∃ j nd : Nat, j ≤ ts.length ∧ iv = .int .i64 (j : Int) ∧ wr = W4.drewN nd) (fun iv _ => ts.length - (intOf iv).toNat)
            case atStart => exact ⟨0, 0, Nat.zero_le _, rfl, rfl⟩
            case round =>
              obtain ⟨j, nd, hjl, rfl, rfl⟩ := hrel
              by_cases hj : j < ts.length
              · have hj' : (j : Int) < (ts.length : Int) := by omega
                obtain ⟨g1, cp1, hv1, _⟩ := World.ownsRow.form HR1.out (by omega)
                obtain ⟨rfl, _⟩ : ao1 = some ⟨g1, 0, none⟩ ∧ cap1 = cp1 := by simpa using hv1
                obtain ⟨g2, cp2, hv2, _⟩ := World.ownsRow.form HR2.out (by omega)
                obtain ⟨rfl, _⟩ : ao2 = some ⟨g2, 0, none⟩ ∧ cap2 = cp2 := by simpa using hv2
                obtain ⟨c0, c1, c2, c3⟩ := tok_cells HR1.out j hj
                obtain ⟨d0, d1, d2, d3⟩ := tok_cells (ts := ts.map (shT (r.size + 5))) HR2.out j (by simpa using hj)
                have hmap : (ts.map (shT (r.size + 5)))[j]'(by simpa using hj) = shT (r.size + 5) ts[j] := by simp
                rw [hmap] at d0 d1 d2 d3
                unfold shT at d0 d1 d2 d3
                simp only at d0 d1 d2 d3
                obtain ⟨E, hE⟩ : ∃ E : Int, (ts[j].at_ : Int) = E := ⟨_, rfl⟩
                have hE0 : 0 ≤ E := by omega
                have hE1 : E ≤ A + 1 := by have := HIn.out ts[j] (List.getElem_mem _); omega
                rw [show ((ts[j].at_ + (r.size + 5) : Nat) : Int) = E + (0 : Int) + 5 by have := HBr.out; omega] at d3
                rw [hE] at c3
                clear hE hmap hv1 hv2
                go_wp2
                go_quiet (fail)
                go_wp2
                go_roundw
                case rel => exact ⟨j + 1, nd + nq, hj, by go_num, by first | rfl | rw [World.drewN_drewN]⟩
                case measure => simp [intOf]; omega
              · have hj' : ¬ (j : Int) < (ts.length : Int) := by omega
                go_wp2
                go_ret
                exact ⟨rfl, HKW.out.trans (Kept.drewN [] _ _) (by simp)⟩
      · obtain ⟨m, hm⟩ : ∃ m, r.size = m + 1 := ⟨r.size - 1, by omega⟩
        have hml : m < r.size := by omega
        have hmi : (r.size : Int) = (m : Int) + 1 := by omega
        have hib : (i : Int) ≤ (m : Int) + 1 := by omega
        have hix : ¬ (i : Int) + 1 < (m : Int) + 1 := by omega
        by_cases hst : r[m].toNat = 42
        · have hmb : (m : Int) ≤ 140737488355328 := by omega
          clear hlt' hrb hir hlt hA0 hA1
          go_wp2
          go_ret
          exact ⟨rfl, hka⟩
        · have hstb : (((r[m].toNat : Nat) : Int) == 42) = false := by simp; omega
          clear hst
          by_cases hbig : 65536 < t.size + r.size + 6
          · have h6 : 65536 < A + ((m : Int) + 1) + 6 := by omega
            have hmb : (m : Int) ≤ 140737488355328 := by omega
            clear hbig hlt' hrb hir hlt
            go_wp2
            go_ret
            exact ⟨rfl, hka⟩
          · have HSum : Hid (t.size + r.size + 6 ≤ 65536) := by show _ ≤ _; omega
            have h6 : A + ((m : Int) + 1) + 6 ≤ 65536 := by omega
            clear hbig hlt' hrb hir hlt hA1
            go_upto_region 11 with fail
            have hG1 := hG.kept hka
            have hxs : (bytesOf (t ++ ⟨#[32]⟩)).length = t.size + 1 := by rw [bytesOf_length, size_append]; rfl
            have q1 : (((⟨#[47, 42]⟩ : ByteArray) ++ r).size : Int) = ((m : Int) + 1) + 2 := by rw [size_append]; have : (⟨#[47, 42]⟩ : ByteArray).size = 2 := rfl; omega
            have q2 : (((⟨#[47, 42]⟩ : ByteArray) ++ r ++ ⟨#[32, 42, 47]⟩).size : Int) = ((m : Int) + 1) + 5 := by rw [size_append, size_append]; have : (⟨#[47, 42]⟩ : ByteArray).size = 2 := rfl; have : (⟨#[32, 42, 47]⟩ : ByteArray).size = 3 := rfl; omega
            have q3 : ((((⟨#[47, 42]⟩ : ByteArray) ++ r ++ ⟨#[32, 42, 47]⟩) ++ t).size : Int) = ((m : Int) + 1) + 5 + A := by rw [size_append, size_append, size_append]; have : (⟨#[47, 42]⟩ : ByteArray).size = 2 := rfl; have : (⟨#[32, 42, 47]⟩ : ByteArray).size = 3 := rfl; omega
            have HTa : Hid (∀ w, G w → Calls Try.prog 10 #[.string (t ++ ⟨#[32]⟩)] w (TokOut 33 w (tokens (bytesOf (t ++ ⟨#[32]⟩))))) := fun w hG => Tokens_any _ w hG
            have HTb : Hid (∀ w, G w → Calls Try.prog 10 #[.string ((((⟨#[47, 42]⟩ : ByteArray) ++ r ++ ⟨#[32, 42, 47]⟩) ++ t) ++ ⟨#[32]⟩)] w (TokOut 33 w (shE (r.size + 5) (tokens (bytesOf (t ++ ⟨#[32]⟩)))))) := fun w hG => by
              have h1 := Tokens_any ((((⟨#[47, 42]⟩ : ByteArray) ++ r ++ ⟨#[32, 42, 47]⟩) ++ t) ++ ⟨#[32]⟩) w hG
              rw [rem_bytes, tokens_remark HRe.out (by rw [bytesOf_length, hxs]; have := HSum.out; omega), bytesOf_length] at h1
              exact h1
            cases hX : tokens (bytesOf (t ++ ⟨#[32]⟩)) with
            | error y =>
              obtain ⟨ec, ek⟩ := y
              rw [hX] at HTa HTb
              have hec := tokens_code hX
              have hek := tokens_err hX
              rw [hxs] at hek
              obtain ⟨E, hE⟩ : ∃ E : Int, (ek : Int) = E := ⟨_, rfl⟩
              have hE0 : 0 ≤ E := by omega
              have hE1 : E ≤ A + 1 := by omega
              clear hX hxs hek
              go_wp2_with fail
              refine (HTa.out _ hG1).mono ?_
              rintro e w2 ⟨rfl, hk2⟩
              have hG2 := (hG1.kept hk2).kept (Kept.alloc [] w2 (.cells #[.int .i64 (ec : Int), .int .i64 (ek : Int)] 26))
              go_wp2_with fail
              rw [hE] at hG2
              refine (HTb.out _ hG2).mono ?_
              rintro e w3 ⟨rfl, hk3⟩
              have b8 := hk3.heap (heap_alloc_new w2 _) (by simp)
              have d0 := cell_blk b8 0
              have d1 := cell_blk b8 1
              simp at d0 d1
              have hlt8 := lt_of_block b8
              go_wp2
              go_ret
              exact ⟨by first | rfl | exact ret_bool (by rw [beq_iff_eq]; omega), (((hka.trans hk2 (by simp)).trans (Kept.alloc [] _ _) (by simp)).trans hk3 (by simp)).trans (Kept.alloc [] _ _) (by simp)⟩
            | ok ts =>
              rw [hX] at HTa HTb
              obtain ⟨hin, htl⟩ := tokens_in hX
              rw [hxs] at hin htl
              have HIn : Hid _ := hin
              have htl2 : (ts.length : Int) ≤ A + 1 := by omega
              have HBr : Hid ((r.size : Int) = ((m : Int) + 1)) := by show _ = _; omega
              clear hX hxs hin htl
              go_wp2_with fail
              refine (HTa.out _ hG1).mono ?_
              rintro e w2 ⟨v1, rfl, hrow1, hk2⟩
              obtain ⟨ao1, cap1, rfl⟩ := row_form hrow1
              have hG2 := (hG1.kept hk2).kept (Kept.alloc [] w2 (.cells #[.int .i64 0, .int .i64 0] 26))
              go_wp2_with fail
              refine (HTb.out _ hG2).mono ?_
              rintro e w3 ⟨v2, rfl, hrow2, hk3⟩
              obtain ⟨ao2, cap2, rfl⟩ := row_form hrow2
              rw [List.length_map] at hrow2 ⊢
              have b8 := hk3.heap (heap_alloc_new w2 _) (by simp)
              have d0 := cell_blk b8 0
              have d1 := cell_blk b8 1
              simp at d0 d1
              have hlt8 := lt_of_block b8
              have hr1 := (Kept.alloc [] w3 (.cells #[.int .i64 0, .int .i64 0] 26)).row (hk3.row ((Kept.alloc [] w2 (.cells #[.int .i64 0, .int .i64 0] 26)).row hrow1 (by simp)) (by simp)) (by simp)
              have hr2 := (Kept.alloc [] w3 (.cells #[.int .i64 0, .int .i64 0] 26)).row hrow2 (by simp)
              have HR1 : Hid _ := hr1
              have HR2 : Hid _ := hr2
              have HKW : Hid (Kept [] w (w3.alloc (.cells #[.int .i64 0, .int .i64 0] 26))) := (((hka.trans hk2 (by simp)).trans (Kept.alloc [] _ _) (by simp)).trans hk3 (by simp)).trans (Kept.alloc [] _ _) (by simp)
              clear hrow1 hrow2 hr1 hr2 hka hk2 hk3 hG2 hG1
              go_wp2
              obtain ⟨W4, hW4⟩ : ∃ W4, w3.alloc (.cells #[.int .i64 0, .int .i64 0] 26) = W4 := ⟨_, rfl⟩
              rw [hW4] at HR1 HR2 HKW ⊢
              clear hW4 b8 d0 d1 hlt8
              go_loopw [11] (fun iv wr => ∃ j nd : Nat, j ≤ ts.length ∧ iv = .int .i64 (j : Int) ∧ wr = W4.drewN nd) (fun iv _ => ts.length - (intOf iv).toNat)
              case atStart => exact ⟨0, 0, Nat.zero_le _, rfl, rfl⟩
              case round =>
                obtain ⟨j, nd, hjl, rfl, rfl⟩ := hrel
                by_cases hj : j < ts.length
                · have hj' : (j : Int) < (ts.length : Int) := by omega
                  obtain ⟨g1, cp1, hv1, _⟩ := World.ownsRow.form HR1.out (by omega)
                  obtain ⟨rfl, _⟩ : ao1 = some ⟨g1, 0, none⟩ ∧ cap1 = cp1 := by simpa using hv1
                  obtain ⟨g2, cp2, hv2, _⟩ := World.ownsRow.form HR2.out (by omega)
                  obtain ⟨rfl, _⟩ : ao2 = some ⟨g2, 0, none⟩ ∧ cap2 = cp2 := by simpa using hv2
                  obtain ⟨c0, c1, c2, c3⟩ := tok_cells HR1.out j hj
                  obtain ⟨d0, d1, d2, d3⟩ := tok_cells (ts := ts.map (shT (r.size + 5))) HR2.out j (by simpa using hj)
                  have hmap : (ts.map (shT (r.size + 5)))[j]'(by simpa using hj) = shT (r.size + 5) ts[j] := by simp
                  rw [hmap] at d0 d1 d2 d3
                  unfold shT at d0 d1 d2 d3
                  simp only at d0 d1 d2 d3
                  obtain ⟨E, hE⟩ : ∃ E : Int, (ts[j].at_ : Int) = E := ⟨_, rfl⟩
                  have hE0 : 0 ≤ E := by omega
                  have hE1 : E ≤ A + 1 := by have := HIn.out ts[j] (List.getElem_mem _); omega
                  rw [show ((ts[j].at_ + (r.size + 5) : Nat) : Int) = E + ((m : Int) + 1) + 5 by have := HBr.out; omega] at d3
                  rw [hE] at c3
                  clear hE hmap hv1 hv2
                  go_wp2
                  go_quiet (fail)
                  go_wp2
                  go_roundw
                  case rel => exact ⟨j + 1, nd + nq, hj, by go_num, by first | rfl | rw [World.drewN_drewN]⟩
                  case measure => simp [intOf]; omega
                · have hj' : ¬ (j : Int) < (ts.length : Int) := by omega
                  go_wp2
                  go_ret
                  exact ⟨rfl, HKW.out.trans (Kept.drewN [] _ _) (by simp)⟩

end Go.Proofs.Ytmaaiahapmplgaa
