/-
  The walk of the statement sextantlaw02.LexJoins.
-/
import Derived.Test.YtmaaiahapmplgaaLJoin
import Derived.Test.YtmaaiahapmplgaaLDigits
namespace Go.Proofs.Ytmaaiahapmplgaa
open Go.RowKit

/-- What Tokens hands back, as values. -/
theorem tokOut_form {t : TypeId} {w w' : World} {R : Except Mis (List Tok)} {e : Ending} (h : TokOut t w R e w') : ∃ (ao : Option Addr) (n cap : Nat) (c k : Int), e = .returned (.tuple #[.slice ao n cap, .agg #[.int .i64 c, .int .i64 k]]) ∧ Kept [] w w' ∧
    (∀ ec ek, R = .error (ec, ek) → c = (ec : Int)) ∧ (∀ ts, R = .ok ts → c = 0 ∧ n = ts.length ∧ w'.ownsRow w.heap.size t 4 (.slice ao n cap) n (tokCells ts)) := by
  unfold TokOut at h
  cases R with
  | error x =>
    obtain ⟨ec, ek⟩ := x
    obtain ⟨h1, h2⟩ := h
    exact ⟨none, 0, 0, ec, ek, h1, h2, fun a b hh => by cases hh; rfl, fun ts hh => by cases hh⟩
  | ok ts =>
    obtain ⟨v, h1, h2, h3⟩ := h
    obtain ⟨ao, cap, rfl⟩ := row_form h2
    refine ⟨ao, ts.length, cap, 0, 0, h1, h3, ?_, ?_⟩
    · intro a b hh
      cases hh
    · intro us hh
      cases hh
      exact ⟨rfl, rfl, h2⟩

theorem join_bytes (a b : ByteArray) : bytesOf ((a ++ ⟨#[10]⟩) ++ b) = bytesOf a ++ 10 :: bytesOf b := by
  simp only [bytes_append]
  have h1 : bytesOf ⟨#[10]⟩ = [10] := rfl
  rw [h1]
  simp

set_option maxHeartbeats 8000000 in
set_option maxRecDepth 100000 in
theorem LexJoins_walk (a b : ByteArray) (ha : a.size ≤ 140737488355328) (hb : b.size ≤ 140737488355328) (w : World) (hG : G w) :
    Calls Try.prog 5 #[.string a, .string b] w fun e w' => e = .returned (.bool true) ∧ Kept [] w w' := by
  obtain ⟨A, hA⟩ : ∃ A : Int, (a.size : Int) = A := ⟨_, rfl⟩
  obtain ⟨B, hB⟩ : ∃ B : Int, (b.size : Int) = B := ⟨_, rfl⟩
  have hA0 : 0 ≤ A := by omega
  have hB0 : 0 ≤ B := by omega
  have hA1 : A ≤ 140737488355328 := by omega
  have hB1 : B ≤ 140737488355328 := by omega
  have q1 : (((a ++ ⟨#[10]⟩ : ByteArray)).size : Int) = A + 1 := by rw [size_append]; have : (⟨#[10]⟩ : ByteArray).size = 1 := rfl; omega
  have HTa : Hid (∀ w, G w → Calls Try.prog 10 #[.string a] w (TokOut 33 w (tokens (bytesOf a)))) := fun w hG => Tokens_any _ w hG
  have HTb : Hid (∀ w, G w → Calls Try.prog 10 #[.string b] w (TokOut 33 w (tokens (bytesOf b)))) := fun w hG => Tokens_any _ w hG
  have HTc : Hid (∀ w, G w → Calls Try.prog 10 #[.string ((a ++ ⟨#[10]⟩) ++ b)] w (TokOut 33 w (tokens (bytesOf a ++ 10 :: bytesOf b)))) := fun w hG => by
    have := Tokens_any ((a ++ ⟨#[10]⟩) ++ b) w hG
    rw [join_bytes] at this
    exact this
  clear ha hb
  go_enter Try.func5, Try.ntmps5
  go_wp2_with (first
    | (go_at_call 9; refine (awake_any _ hG).mono ?_; rintro e w1 ⟨rfl, hka⟩))
  have hG1 := hG.kept hka
  refine (HTa.out _ hG1).mono ?_
  intro e w2 ho
  obtain ⟨ao1, n1, cap1, c1, k1, rfl, hk2, he1, hx1⟩ := tokOut_form ho
  have HE1 : Hid _ := he1
  have HX1 : Hid _ := hx1
  clear ho he1 hx1
  have hG2 := (hG1.kept hk2).kept (Kept.alloc [] w2 (.cells #[.int .i64 c1, .int .i64 k1] 26))
  go_wp2_with fail
  refine (HTb.out _ hG2).mono ?_
  intro e w3 ho
  obtain ⟨ao2, n2, cap2, c2, k2, rfl, hk3, he2, hx2⟩ := tokOut_form ho
  have HE2 : Hid _ := he2
  have HX2 : Hid _ := hx2
  clear ho he2 hx2
  have hG3 := (hG2.kept hk3).kept (Kept.alloc [] w3 (.cells #[.int .i64 c2, .int .i64 k2] 26))
  go_wp2_with fail
  refine (HTc.out _ hG3).mono ?_
  intro e w4 ho
  obtain ⟨ao3, n3, cap3, c3, k3, rfl, hk4, he3, hx3⟩ := tokOut_form ho
  have HE3 : Hid _ := he3
  have HX3 : Hid _ := hx3
  clear ho he3 hx3
  have b1 := hk4.heap ((Kept.alloc [] w3 (.cells #[.int .i64 c2, .int .i64 k2] 26)).heap (hk3.heap (heap_alloc_new w2 (.cells #[.int .i64 c1, .int .i64 k1] 26)) (by simp)) (by simp)) (by simp)
  have b2 := hk4.heap (heap_alloc_new w3 (.cells #[.int .i64 c2, .int .i64 k2] 26)) (by simp)
  have d1 := cell_blk b1 0
  have d2 := cell_blk b2 0
  simp at d1 d2
  have hl1 := lt_of_block b1
  have hl2 := lt_of_block b2
  have HKW : Hid (Kept [] w (w4.alloc (.cells #[.int .i64 c3, .int .i64 k3] 26))) :=
    (((((hka.trans hk2 (by simp)).trans (Kept.alloc [] _ _) (by simp)).trans hk3 (by simp)).trans (Kept.alloc [] _ _) (by simp)).trans hk4 (by simp)).trans (Kept.alloc [] _ _) (by simp)
  clear b1 b2 hG1 hG2 hG3
  cases hta : tokens (bytesOf a) with
  | error x =>
    obtain ⟨ec, ek⟩ := x
    have hc1 : ¬ c1 = 0 := by have := HE1.out ec ek hta; have := tokens_code hta; omega
    clear hta
    go_wp2
    go_ret
    exact ⟨rfl, HKW.out⟩
  | ok xs =>
    obtain ⟨rfl, rfl, hr1⟩ := HX1.out xs hta
    cases htb : tokens (bytesOf b) with
    | error x =>
      obtain ⟨ec, ek⟩ := x
      have hc2 : ¬ c2 = 0 := by have := HE2.out ec ek htb; have := tokens_code htb; omega
      clear hta htb
      go_wp2
      go_ret
      exact ⟨rfl, HKW.out⟩
    | ok ys =>
      obtain ⟨rfl, rfl, hr2⟩ := HX2.out ys htb
      by_cases hbig : 65536 < A + B + 1
      · clear hta htb
        go_wp2
        go_ret
        exact ⟨rfl, HKW.out⟩
      · have hsum : A + B + 1 ≤ 65536 := by omega
        have htc := tokens_join hta htb (by rw [bytesOf_length, bytesOf_length]; omega)
        obtain ⟨rfl, rfl, hr3⟩ := HX3.out _ htc
        rw [bytesOf_length] at hr3 htc
        obtain ⟨hin1, hlx⟩ := tokens_in hta
        obtain ⟨hin2, hly⟩ := tokens_in htb
        rw [bytesOf_length] at hin1 hlx hin2 hly
        have hlen3 : ((xs ++ ys.map (shT (a.size + 1))).length : Int) = (xs.length : Int) + (ys.length : Int) := by simp
        rw [List.length_append, List.length_map]
        go_wp2
        have hr1' := (Kept.alloc [] w4 (.cells #[.int .i64 0, .int .i64 k3] 26)).row (hk4.row ((Kept.alloc [] w3 (.cells #[.int .i64 0, .int .i64 k2] 26)).row (hk3.row ((Kept.alloc [] w2 (.cells #[.int .i64 0, .int .i64 k1] 26)).row hr1 (by simp)) (by simp)) (by simp)) (by simp)) (by simp)
        have hr2' := (Kept.alloc [] w4 (.cells #[.int .i64 0, .int .i64 k3] 26)).row (hk4.row ((Kept.alloc [] w3 (.cells #[.int .i64 0, .int .i64 k2] 26)).row hr2 (by simp)) (by simp)) (by simp)
        have hr3' := (Kept.alloc [] w4 (.cells #[.int .i64 0, .int .i64 k3] 26)).row hr3 (by simp)
        have HR1 : Hid _ := hr1'
        have HR2 : Hid _ := hr2'
        have HR3 : Hid _ := hr3'
        obtain ⟨W5, hW5⟩ : ∃ W5, w4.alloc (.cells #[.int .i64 0, .int .i64 k3] 26) = W5 := ⟨_, rfl⟩
        rw [hW5] at HR1 HR2 HR3 HKW ⊢
        have HI1 : Hid (∀ (t : Tok), t ∈ xs → (t.at_ : Int) ≤ A) := fun t ht => by have := hin1 t ht; omega
        have HI2 : Hid (∀ (t : Tok), t ∈ ys → (t.at_ : Int) ≤ B) := fun t ht => by have := hin2 t ht; omega
        have hxA : (xs.length : Int) ≤ A := by omega
        have hyB : (ys.length : Int) ≤ B := by omega
        have HA : Hid ((a.size : Int) = A) := hA
        clear hr1 hr2 hr3 hr1' hr2' hr3' hk4 hk3 hk2 hka HX1 HX2 HX3 HE1 HE2 HE3 HTa HTb HTc hta htb htc hin1 hin2 hlx hly hlen3 hW5 d1 d2 hl1 hl2
        go_loopw [12] (fun iv wr => ∃ i : Nat, i ≤ xs.length + ys.length ∧ iv = .int .i64 (i : Int) ∧ Kept [] W5 wr) (fun iv _ => xs.length + ys.length - (intOf iv).toNat)
        case atStart => exact ⟨0, Nat.zero_le _, rfl, Kept.refl _ _⟩
        case round =>
          obtain ⟨i, hil, rfl, hkr⟩ := hrel
          by_cases hlt : i < xs.length + ys.length
          · have hlt' : (i : Int) < (xs.length : Int) + (ys.length : Int) := by omega
            have hR3 := hkr.row HR3.out (by simp)
            obtain ⟨g3, cp3, hv3, _⟩ := World.ownsRow.form hR3 (by simp; omega)
            obtain ⟨rfl, -⟩ : ao3 = some ⟨g3, 0, none⟩ ∧ cap3 = cp3 := by simpa using hv3
            obtain ⟨e0, e1, e2, e3⟩ := tok_cells (ts := xs ++ ys.map (shT (a.size + 1))) hR3 i (by simp; omega)
            have hg3 := block_lt_of_cell e0
            clear hR3 hv3
            by_cases hix : i < xs.length
            · have hix' : (i : Int) < (xs.length : Int) := by omega
              have hR1 := hkr.row HR1.out (by simp)
              obtain ⟨g1, cp1, hv1, _⟩ := World.ownsRow.form hR1 (by omega)
              obtain ⟨rfl, -⟩ : ao1 = some ⟨g1, 0, none⟩ ∧ cap1 = cp1 := by simpa using hv1
              obtain ⟨c0, c1, c2, c3⟩ := tok_cells hR1 i hix
              have hg1 := block_lt_of_cell c0
              have hmap : (xs ++ ys.map (shT (a.size + 1)))[i]'(by simp; omega) = xs[i] := List.getElem_append_left hix
              rw [hmap] at e0 e1 e2 e3
              obtain ⟨E, hE⟩ : ∃ E : Int, (xs[i].at_ : Int) = E := ⟨_, rfl⟩
              have hE0 : 0 ≤ E := by omega
              have hE1 : E ≤ A := by have := HI1.out xs[i] (List.getElem_mem _); omega
              rw [hE] at c3 e3
              clear hE hmap hv1 hR1
              go_wp2
              go_quiet (fail)
              go_wp2
              go_roundw
              case rel => exact ⟨i + 1, by omega, by go_num, (hkr.trans (Kept.alloc [] _ _) (by simp)).trans (Kept.drewN [] _ _) (by simp)⟩
              case measure => simp [intOf]; omega
            · obtain ⟨k, hk⟩ : ∃ k, i = xs.length + k := ⟨i - xs.length, by omega⟩
              have hsub : (i : Int) - (xs.length : Int) = (k : Int) := by omega
              have hix' : ¬ (i : Int) < (xs.length : Int) := by omega
              have hky : k < ys.length := by omega
              have hky' : (k : Int) < (ys.length : Int) := by omega
              have hR2 := hkr.row HR2.out (by simp)
              obtain ⟨g2, cp2, hv2, _⟩ := World.ownsRow.form hR2 (by omega)
              obtain ⟨rfl, -⟩ : ao2 = some ⟨g2, 0, none⟩ ∧ cap2 = cp2 := by simpa using hv2
              obtain ⟨c0, c1, c2, c3⟩ := tok_cells hR2 k hky
              have hg2 := block_lt_of_cell c0
              have hmap : (xs ++ ys.map (shT (a.size + 1)))[i]'(by simp; omega) = shT (a.size + 1) ys[k] := by
                subst hk
                rw [List.getElem_append_right (by omega)]
                simp
              rw [hmap] at e0 e1 e2 e3
              unfold shT at e0 e1 e2 e3
              simp only at e0 e1 e2 e3
              obtain ⟨E, hE⟩ : ∃ E : Int, (ys[k].at_ : Int) = E := ⟨_, rfl⟩
              have hE0 : 0 ≤ E := by omega
              have hE1 : E ≤ B := by have := HI2.out ys[k] (List.getElem_mem _); omega
              rw [show ((ys[k].at_ + (a.size + 1) : Nat) : Int) = E + (A + 1) by have := HA.out; omega] at e3
              rw [hE] at c3
              clear hE hmap hv2 hR2 hk hix
              go_wp2
              go_quiet (fail)
              go_wp2
              go_roundw
              case rel => exact ⟨i + 1, by omega, by go_num, (hkr.trans (Kept.alloc [] _ _) (by simp)).trans (Kept.drewN [] _ _) (by simp)⟩
              case measure => simp [intOf]; omega
          · have hlt' : ¬ (i : Int) < (xs.length : Int) + (ys.length : Int) := by omega
            go_wp2
            go_ret
            exact ⟨rfl, HKW.out.trans hkr (by simp)⟩

end Go.Proofs.Ytmaaiahapmplgaa
