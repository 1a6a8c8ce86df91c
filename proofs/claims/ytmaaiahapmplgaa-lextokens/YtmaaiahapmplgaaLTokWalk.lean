/-
  The walk of the statement sextantlaw02.LexTokens.
-/
import Derived.Test.YtmaaiahapmplgaaXTokens
import Derived.Test.YtmaaiahapmplgaaLShift
import Derived.Test.YtmaaiahapmplgaaLAwake
namespace Go.Proofs.Ytmaaiahapmplgaa
open Go.RowKit

/-- What is told of a text: a code, a place, words. -/
def codeOf : Except Mis (List Tok) → Nat × Nat × List Tok
  | .error (e, k) => (e, k, [])
  | .ok ts => (0, 0, ts)

theorem tokOut_same {t : TypeId} {w w' : World} {R : Except Mis (List Tok)} {e : Ending} (h : TokOut t w R e w') : ∃ (ao : Option Addr) (cap : Nat),
    e = .returned (.tuple #[.slice ao (codeOf R).2.2.length cap, .agg #[.int .i64 ((codeOf R).1 : Int), .int .i64 ((codeOf R).2.1 : Int)]]) ∧ Kept [] w w' ∧
    w'.ownsRow w.heap.size t 4 (.slice ao (codeOf R).2.2.length cap) (codeOf R).2.2.length (tokCells (codeOf R).2.2) := by
  unfold TokOut at h
  cases R with
  | error x =>
    obtain ⟨ec, ek⟩ := x
    obtain ⟨h1, h2⟩ := h
    exact ⟨none, 0, h1, h2, World.ownsRow_nil _ _ _ _⟩
  | ok ts =>
    obtain ⟨v, h1, h2, h3⟩ := h
    obtain ⟨ao, cap, rfl⟩ := row_form h2
    exact ⟨ao, cap, h1, h3, h2⟩

theorem codeOf_len (l : List UInt8) : (codeOf (tokens l)).2.2.length ≤ 65536 := by
  cases h : tokens l with
  | error x => obtain ⟨e, k⟩ := x; simp [codeOf]
  | ok ts =>
    have h1 := (tokens_in h).2
    have h2 : ¬ 65536 < l.length := fun hh => by rw [tokens_long hh] at h; cases h
    simp only [codeOf]
    omega

set_option maxHeartbeats 8000000 in
set_option maxRecDepth 100000 in
theorem LexTokens_walk (t : ByteArray) (w : World) (hG : G w) :
    Calls Try.prog 3 #[.string t] w fun e w' => e = .returned (.bool true) ∧ Kept [] w w' := by
  have hlen := codeOf_len (bytesOf t)
  have HTa : Hid (∀ w, G w → Calls Try.prog 10 #[.string t] w fun e w' => ∃ (ao : Option Addr) (cap : Nat), e = .returned (.tuple #[.slice ao (codeOf (tokens (bytesOf t))).2.2.length cap, .agg #[.int .i64 ((codeOf (tokens (bytesOf t))).1 : Int), .int .i64 ((codeOf (tokens (bytesOf t))).2.1 : Int)]]) ∧ Kept [] w w' ∧
      w'.ownsRow w.heap.size 33 4 (.slice ao (codeOf (tokens (bytesOf t))).2.2.length cap) (codeOf (tokens (bytesOf t))).2.2.length (tokCells (codeOf (tokens (bytesOf t))).2.2)) := fun w hG => (Tokens_any t w hG).mono (fun e w' h => tokOut_same h)
  have HTb : Hid (∀ w, Calls Try.prog 11 #[.string t] w fun e w' => ∃ (ao : Option Addr) (cap : Nat), e = .returned (.tuple #[.slice ao (codeOf (tokens (bytesOf t))).2.2.length cap, .agg #[.int .i64 ((codeOf (tokens (bytesOf t))).1 : Int), .int .i64 ((codeOf (tokens (bytesOf t))).2.1 : Int)]]) ∧ Kept [] w w' ∧
      w'.ownsRow w.heap.size 34 4 (.slice ao (codeOf (tokens (bytesOf t))).2.2.length cap) (codeOf (tokens (bytesOf t))).2.2.length (tokCells (codeOf (tokens (bytesOf t))).2.2)) := fun w => (rTokens_any t w).mono (fun e w' h => tokOut_same h)
  obtain ⟨⟨c, k, ts⟩, hR⟩ : ∃ r, codeOf (tokens (bytesOf t)) = r := ⟨_, rfl⟩
  rw [hR] at HTa HTb hlen
  simp only at hlen
  have HTa' : Hid (∀ w, G w → Calls Try.prog 10 #[.string t] w fun e w' => ∃ (ao : Option Addr) (cap : Nat), e = .returned (.tuple #[.slice ao ts.length cap, .agg #[.int .i64 (c : Int), .int .i64 (k : Int)]]) ∧ Kept [] w w' ∧ w'.ownsRow w.heap.size 33 4 (.slice ao ts.length cap) ts.length (tokCells ts)) := HTa
  have HTb' : Hid (∀ w, Calls Try.prog 11 #[.string t] w fun e w' => ∃ (ao : Option Addr) (cap : Nat), e = .returned (.tuple #[.slice ao ts.length cap, .agg #[.int .i64 (c : Int), .int .i64 (k : Int)]]) ∧ Kept [] w w' ∧ w'.ownsRow w.heap.size 34 4 (.slice ao ts.length cap) ts.length (tokCells ts)) := HTb
  obtain ⟨L, hL⟩ : ∃ L : Int, (ts.length : Int) = L := ⟨_, rfl⟩
  have hL0 : 0 ≤ L := by omega
  have hL1 : L ≤ 65536 := by omega
  clear hR HTa HTb hlen
  go_enter Try.func3, Try.ntmps3
  go_wp2_with (first
    | (go_at_call 9; refine (awake_any _ hG).mono ?_; rintro e w1 ⟨rfl, hka⟩))
  have hG1 := hG.kept hka
  refine (HTa'.out _ hG1).mono ?_
  rintro e w2 ⟨ao1, cap1, rfl, hk2, hrow1⟩
  go_wp2_with fail
  refine (HTb'.out _).mono ?_
  rintro e w3 ⟨ao2, cap2, rfl, hk3, hrow2⟩
  have b8 := hk3.heap (heap_alloc_new w2 (.cells #[.int .i64 (c : Int), .int .i64 (k : Int)] 26)) (by simp)
  have d0 := cell_blk b8 0
  have d1 := cell_blk b8 1
  simp at d0 d1
  have hlt8 := lt_of_block b8
  have hr1 := (Kept.alloc [] w3 (.cells #[.int .i64 (c : Int), .int .i64 (k : Int)] 26)).row (hk3.row ((Kept.alloc [] w2 (.cells #[.int .i64 (c : Int), .int .i64 (k : Int)] 26)).row hrow1 (by simp)) (by simp)) (by simp)
  have hr2 := (Kept.alloc [] w3 (.cells #[.int .i64 (c : Int), .int .i64 (k : Int)] 26)).row hrow2 (by simp)
  have HR3 : Hid _ := hr1
  have HR4 : Hid _ := hr2
  have HKV : Hid (Kept [] w (w3.alloc (.cells #[.int .i64 (c : Int), .int .i64 (k : Int)] 26))) := (((hka.trans hk2 (by simp)).trans (Kept.alloc [] _ _) (by simp)).trans hk3 (by simp)).trans (Kept.alloc [] _ _) (by simp)
  clear hrow1 hrow2 hr1 hr2 hk3 hk2 hka hG1 HTa' HTb' b8
  go_wp2
  obtain ⟨W4, hW4⟩ : ∃ W4, w3.alloc (.cells #[.int .i64 (c : Int), .int .i64 (k : Int)] 26) = W4 := ⟨_, rfl⟩
  rw [hW4] at HR3 HR4 HKV ⊢
  clear hW4 d0 d1 hlt8
  go_loopw [8] (fun iv wr => ∃ j nd : Nat, j ≤ ts.length ∧ iv = .int .i64 (j : Int) ∧ wr = W4.drewN nd) (fun iv _ => ts.length - (intOf iv).toNat)
  case atStart => exact ⟨0, 0, Nat.zero_le _, rfl, rfl⟩
  case round =>
    obtain ⟨j, nd, hjl, rfl, rfl⟩ := hrel
    by_cases hj : j < ts.length
    · have hj' : (j : Int) < L := by omega
      obtain ⟨g1, cp1, hv1, _⟩ := World.ownsRow.form HR3.out (by omega)
      obtain ⟨rfl, -⟩ : ao1 = some ⟨g1, 0, none⟩ ∧ cap1 = cp1 := by simpa using hv1
      obtain ⟨g2, cp2, hv2, _⟩ := World.ownsRow.form HR4.out (by omega)
      obtain ⟨rfl, -⟩ : ao2 = some ⟨g2, 0, none⟩ ∧ cap2 = cp2 := by simpa using hv2
      obtain ⟨c0, c1, c2, c3⟩ := tok_cells HR3.out j hj
      obtain ⟨d0, d1, d2, d3⟩ := tok_cells HR4.out j hj
      clear hv1 hv2
      go_wp2
      go_quiet (fail)
      go_wp2
      go_roundw
      case rel => exact ⟨j + 1, nd + nq, hj, by go_num, by first | rfl | rw [World.drewN_drewN]⟩
      case measure => simp [intOf]; omega
    · have hj' : ¬ (j : Int) < L := by omega
      go_wp2
      go_ret
      exact ⟨rfl, HKV.out.trans (Kept.drewN [] _ _) (by simp)⟩

end Go.Proofs.Ytmaaiahapmplgaa
