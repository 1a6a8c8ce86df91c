/-
  LBlanks, LEnds.
-/
import Derived.Deep.LoopGhost
import Derived.Test.YthmdgbmodgfcmaaGreatDoorM35
/-
  What skipBlanks does: how many bytes of blanks stand ahead.
-/
namespace Go.Proofs.YthmdgbmodgfcmaaGreatDoor
open Go.RowKit

/-- Does a remark begin here? -/
def remAt (l : List UInt8) : Bool := decide (l.take 2 = [47, 42])

theorem ret_bool {a b : Bool} (h : a = b) : Ending.returned (.bool a) = .returned (.bool b) := by rw [h]

set_option maxHeartbeats 400000 in
theorem sHasPrefix_any (s : ByteArray) (w : World) :
    Calls Tryz.prog 93 #[.string s, .string ⟨#[47, 42]⟩] w fun e w' => e = .returned (.bool (remAt (bytesOf s))) ∧ w' = w := by
  by_cases h : 2 ≤ s.size
  · have h1 : (2 : Int) ≤ (s.size : Int) := by omega
    go_enter Tryz.func93, Tryz.ntmps93
    go_wp2
    go_ret
    refine ⟨ret_bool ?_, rfl⟩
    rw [toList_bytes, bytes_extract, List.drop_zero]
    unfold remAt
    rw [Bool.eq_iff_iff]
    simp
  · have h1 : ¬ (2 : Int) ≤ (s.size : Int) := by omega
    go_enter Tryz.func93, Tryz.ntmps93
    go_wp2
    go_ret
    refine ⟨ret_bool ?_, rfl⟩
    have hn : ¬ (bytesOf s).take 2 = [47, 42] := fun e => by
      have h2 : ((bytesOf s).take 2).length = 2 := by rw [e]; rfl
      rw [List.length_take, bytesOf_length] at h2
      omega
    exact (decide_eq_false hn).symm

theorem index_rem : ∀ (l : List UInt8), Lib.index l [42, 47] = match remEnd l with | none => -1 | some k => (k : Int)
  | [] => by simp [Lib.index, remEnd]
  | c :: r => by
    have ih := index_rem r
    have e : List.isPrefixOf [42, 47] (c :: r) = (c == 42 && r.head? == some 47) := by
      cases r with
      | nil => simp [List.isPrefixOf]
      | cons d t =>
        simp only [List.isPrefixOf, List.head?_cons, Bool.and_true]
        have e1 : ((42 : UInt8) == c) = (c == 42) := Bool.eq_iff_iff.2 (by rw [beq_iff_eq, beq_iff_eq]; exact eq_comm)
        have e2 : ((47 : UInt8) == d) = (some d == some 47) := Bool.eq_iff_iff.2 (by rw [beq_iff_eq, beq_iff_eq, Option.some.injEq]; exact eq_comm)
        rw [e1, e2]
    rw [Lib.index, e, remEnd]
    by_cases h : (c == 42 && r.head? == some 47) = true
    · simp [h]
    · simp only [h, ih]
      cases remEnd r with
      | none => simp
      | some k =>
        have : ¬ ((k : Int) = -1) := by omega
        simp [this]

set_option maxHeartbeats 400000 in
theorem HasPrefix_any (s : ByteArray) (w : World) :
    Calls Tryz.prog 68 #[.string s, .string ⟨#[47, 42]⟩] w fun e w' => e = .returned (.bool (remAt (bytesOf s))) ∧ w' = w := by
  go_enter Tryz.func68, Tryz.ntmps68
  go_wp2_with (go_at_call 93; refine (sHasPrefix_any _ _).mono ?_; rintro e w1 ⟨rfl, rfl⟩)
  go_ret
  exact ⟨rfl, rfl⟩

theorem Index_any (s : ByteArray) (w : World) (hs : s.size ≤ 65536) (hG : G w) :
    Calls Tryz.prog 69 #[.string s, .string ⟨#[42, 47]⟩] w fun e w' => e = .returned (.int .i64 (match remEnd (bytesOf s) with | none => -1 | some k => (k : Int))) ∧ w' = w := by
  obtain ⟨m, hm⟩ := hG
  refine (Tryz.strings_Index s ⟨#[42, 47]⟩ m w (by omega) hm).mono ?_
  rintro e w1 ⟨rfl, rfl⟩
  exact ⟨by rw [show s.data.toList = bytesOf s from rfl, show (⟨#[42, 47]⟩ : ByteArray).data.toList = [42, 47] from rfl, index_rem], rfl⟩

/-- What skipBlanks hands back. -/
def skipV (s : ByteArray) (p : Nat) : Value := match skip ((bytesOf s).drop p) with
  | none => .tuple #[.int .i64 0, .agg #[.int .i64 21, .int .i64 s.size]]
  | some n => .tuple #[.int .i64 ((p + n : Nat) : Int), .agg #[.int .i64 0, .int .i64 0]]

theorem skipV_none {s : ByteArray} {p : Nat} (h : skip ((bytesOf s).drop p) = none) : skipV s p = .tuple #[.int .i64 0, .agg #[.int .i64 21, .int .i64 s.size]] := by unfold skipV; rw [h]
theorem skipV_some {s : ByteArray} {p n : Nat} (h : skip ((bytesOf s).drop p) = some n) : skipV s p = .tuple #[.int .i64 ((p + n : Nat) : Int), .agg #[.int .i64 0, .int .i64 0]] := by unfold skipV; rw [h]

theorem remEnd_lt : ∀ {l : List UInt8} {k : Nat}, remEnd l = some k → k + 2 ≤ l.length
  | [], _, h => by simp [remEnd] at h
  | c :: r, k, h => by
    unfold remEnd at h
    split at h
    · rename_i hc
      cases h
      cases r with
      | nil => simp at hc
      | cons d t => simp
    · cases hr : remEnd r with
      | none => rw [hr] at h; simp at h
      | some j =>
        rw [hr] at h
        have := remEnd_lt hr
        simp at h ⊢
        omega

theorem skipV_step {s : ByteArray} {a b : Nat} {d : Nat} (hb : b = a + d) (h : skip ((bytesOf s).drop a) = (skip ((bytesOf s).drop b)).map (· + d)) : skipV s a = skipV s b := by
  unfold skipV
  rw [h]
  cases skip ((bytesOf s).drop b) with
  | none => rfl
  | some n =>
    simp only [Option.map_some]
    rw [show a + (n + d) = b + n by omega]

theorem skipV_blank {s : ByteArray} {a : Nat} (h : a < s.size) (hb : isBl s[a] = true) : skipV s a = skipV s (a + 1) :=
  skipV_step (d := 1) rfl (by rw [drop_at s a h, skip_blank hb])

theorem remAt_form {s : ByteArray} {a : Nat} (h : remAt ((bytesOf s).drop a) = true) : (bytesOf s).drop a = 47 :: 42 :: (bytesOf s).drop (a + 2) ∧ a + 2 ≤ s.size := by
  have h1 : ((bytesOf s).drop a).take 2 = [47, 42] := of_decide_eq_true h
  have h2 := List.take_append_drop 2 ((bytesOf s).drop a)
  rw [h1, List.drop_drop] at h2
  refine ⟨h2.symm, ?_⟩
  have h3 : (((bytesOf s).drop a).take 2).length = 2 := by rw [h1]; rfl
  rw [List.length_take, List.length_drop, bytesOf_length] at h3
  omega

theorem remAt_head (c : UInt8) (r : List UInt8) : remAt (c :: r) = (c == 47 && r.head? == some 42) := by
  unfold remAt
  cases r with
  | nil => simp
  | cons d t => rw [Bool.eq_iff_iff]; simp

theorem skipV_rem {s : ByteArray} {a k : Nat} (h : remAt ((bytesOf s).drop a) = true) (hk : remEnd ((bytesOf s).drop (a + 2)) = some k) : skipV s a = skipV s (a + 2 + k + 2) :=
  skipV_step (d := k + 4) (by omega) (by rw [(remAt_form h).1, skip_rem hk, List.drop_drop, show a + 2 + (k + 2) = a + 2 + k + 2 by omega])

theorem skipV_open {s : ByteArray} {a : Nat} (h : remAt ((bytesOf s).drop a) = true) (hk : remEnd ((bytesOf s).drop (a + 2)) = none) : skipV s a = .tuple #[.int .i64 0, .agg #[.int .i64 21, .int .i64 s.size]] :=
  skipV_none (by rw [(remAt_form h).1, skip_open hk])

theorem skipV_stop {s : ByteArray} {a : Nat} (h : a < s.size) (hb : isBl s[a] = false) (hr : remAt ((bytesOf s).drop a) = false) : skipV s a = .tuple #[.int .i64 (a : Int), .agg #[.int .i64 0, .int .i64 0]] :=
  skipV_some (n := 0) (by rw [drop_at s a h] at hr ⊢; rw [remAt_head] at hr; exact skip_other hb hr)

theorem skipV_end {s : ByteArray} : skipV s s.size = .tuple #[.int .i64 (s.size : Int), .agg #[.int .i64 0, .int .i64 0]] :=
  skipV_some (n := 0) (by rw [List.drop_eq_nil_of_le (by rw [bytesOf_length]; exact Nat.le_refl _)]; rfl)

set_option maxHeartbeats 4000000 in
set_option maxRecDepth 100000 in
theorem skipBlanks_any (s : ByteArray) (p : Nat) (hp : p ≤ s.size) (hs : s.size ≤ 65536) (w : World) (hG : G w) :
    Calls Tryz.prog 50 #[.string s, .int .i64 p] w fun e w' => e = .returned (skipV s p) ∧ Kept [] w w' := by
  have HS : Hid (s.size ≤ 65536) := hs
  have HG : Hid (G (w.alloc (.cells #[.int .i64 0, .int .i64 0] 26))) := hG.kept (Kept.alloc [] _ _)
  have b5 := heap_alloc_new w (.cells #[.int .i64 0, .int .i64 0] 26)
  clear hs hG
  go_enter Tryz.func50, Tryz.ntmps50
  go_wp2
  go_loop [1] (fun iv => ∃ a : Nat, p ≤ a ∧ a ≤ s.size ∧ iv = .int .i64 (a : Int) ∧ skipV s p = skipV s a)
    (fun iv => s.size - (intOf iv).toNat)
  case atStart => exact ⟨p, Nat.le_refl _, hp, rfl, rfl⟩
  case round =>
    obtain ⟨a, hpa, has, rfl, hskip⟩ := hrel
    have HSK : Hid _ := hskip
    clear hskip hp
    by_cases hlt : a < s.size
    · have hlt' : (a : Int) < (s.size : Int) := by omega
      have hle' : (a : Int) ≤ 65536 := by have := HS.out; omega
      cases hb : isBl s[a] with
      | true =>
        have HB : Hid _ := hb
        clear hb
        go_wp2_with (first
          | (go_at_call 67; refine (isBlank_any _ _).mono ?_; rintro e w1 ⟨rfl, hw⟩; replace hw := hw.symm; subst hw; rw [HB.out]))
        go_round
        case rel => exact ⟨a + 1, by omega, by omega, by go_num, HSK.out.trans (skipV_blank hlt HB.out)⟩
        case measure => simp [intOf]; omega
      | false =>
        have HB : Hid _ := hb
        clear hb
        cases hr : remAt ((bytesOf s).drop a) with
        | true =>
          have HR : Hid _ := hr
          have ha2 := (remAt_form hr).2
          clear hr
          cases hk : remEnd ((bytesOf s).drop (a + 2)) with
          | none =>
            have HK : Hid _ := hk
            clear hk
            go_wp2_with (first
              | (go_at_call 67; refine (isBlank_any _ _).mono ?_; rintro e w1 ⟨rfl, hw⟩; replace hw := hw.symm; subst hw; rw [HB.out])
              | (go_at_call 68; refine (HasPrefix_any _ _).mono ?_; rintro e w1 ⟨rfl, hw⟩; replace hw := hw.symm; subst hw; rw [bytes_tail, HR.out])
              | (go_at_call 69; refine (Index_any _ _ (by simp; have := HS.out; omega) HG.out).mono ?_; rintro e w1 ⟨rfl, hw⟩; replace hw := hw.symm; subst hw; rw [bytes_tail, HK.out])
              | (go_at_call 49; refine (mishap_any _ _ _).mono ?_; rintro e w1 ⟨rfl, hkm⟩; have b6 := hkm.heap b5 (by simp); have c0 := cell_blk b6 0; have c1 := cell_blk b6 1; have f0 := free_blk b6 0; have f1 := free_blk b6 1; simp at c0 c1))
            have b7 := setCell_blk (i := 1) (u := .int .i64 s.size) (setCell_blk (i := 0) (u := .int .i64 21) b6)
            have e0 := cell_blk b7 0
            have e1 := cell_blk b7 1
            simp at e0 e1
            refine bodyPost_ret (v := .tuple #[.int .i64 0, .agg #[.int .i64 21, .int .i64 s.size]]) ?_ rfl ⟨?_, ?_⟩
            · simp only [results, Tryz.results50]
              simp [go_sem, e0, e1]
            · rw [HSK.out, skipV_open HR.out HK.out]
            · exact (((Kept.alloc [] w _).trans hkm (by simp)).trans (Kept.setCell _ _ _) (by simp)).trans (Kept.setCell _ _ _) (by simp)
          | some k =>
            have HK : Hid _ := hk
            have hk2 := remEnd_lt hk
            rw [List.length_drop, bytesOf_length] at hk2
            have hk3 : (k : Int) ≤ 65536 := by have := HS.out; omega
            clear hk
            go_wp2_with (first
              | (go_at_call 67; refine (isBlank_any _ _).mono ?_; rintro e w1 ⟨rfl, hw⟩; replace hw := hw.symm; subst hw; rw [HB.out])
              | (go_at_call 68; refine (HasPrefix_any _ _).mono ?_; rintro e w1 ⟨rfl, hw⟩; replace hw := hw.symm; subst hw; rw [bytes_tail, HR.out])
              | (go_at_call 69; refine (Index_any _ _ (by simp; have := HS.out; omega) HG.out).mono ?_; rintro e w1 ⟨rfl, hw⟩; replace hw := hw.symm; subst hw; rw [bytes_tail, HK.out]))
            go_round
            case rel => exact ⟨a + 2 + k + 2, by omega, by omega, by go_num, HSK.out.trans (skipV_rem HR.out HK.out)⟩
            case measure => simp [intOf]; omega
        | false =>
          have HR : Hid _ := hr
          clear hr
          go_wp2_with (first
            | (go_at_call 67; refine (isBlank_any _ _).mono ?_; rintro e w1 ⟨rfl, hw⟩; replace hw := hw.symm; subst hw; rw [HB.out])
            | (go_at_call 68; refine (HasPrefix_any _ _).mono ?_; rintro e w1 ⟨rfl, hw⟩; replace hw := hw.symm; subst hw; rw [bytes_tail, HR.out]))
          go_returns
          exact ⟨by rw [HSK.out, skipV_stop hlt HB.out HR.out], Kept.alloc [] _ _⟩
    · have hlt' : ¬ (a : Int) < (s.size : Int) := by omega
      have has2 : a = s.size := by omega
      subst has2
      go_wp2
      go_returns
      exact ⟨by rw [HSK.out, skipV_end], Kept.alloc [] _ _⟩
end Go.Proofs.YthmdgbmodgfcmaaGreatDoor
/-
  What endOf, piece, value do: where the bytes of a word end; a copy; what digits say.
-/
namespace Go.Proofs.YthmdgbmodgfcmaaGreatDoor
open Go.RowKit

theorem ret_i64 {a b : Int} (h : a = b) : Ending.returned (.int .i64 a) = .returned (.int .i64 b) := by rw [h]

/-- How many bytes ahead belong to a word. -/
def tw (pred : UInt8 → Bool) (l : List UInt8) : Nat := (l.takeWhile pred).length

theorem tw_yes {pred : UInt8 → Bool} {s : ByteArray} {a : Nat} (h : a < s.size) (hp : pred s[a] = true) : a + tw pred ((bytesOf s).drop a) = (a + 1) + tw pred ((bytesOf s).drop (a + 1)) := by
  rw [drop_at s a h]
  simp [tw, hp]
  omega
theorem tw_no {pred : UInt8 → Bool} {s : ByteArray} {a : Nat} (h : a < s.size) (hp : pred s[a] = false) : a + tw pred ((bytesOf s).drop a) = a := by
  rw [drop_at s a h]
  simp [tw, hp]
theorem tw_end {pred : UInt8 → Bool} {s : ByteArray} : s.size + tw pred ((bytesOf s).drop s.size) = s.size := by
  rw [List.drop_eq_nil_of_le (by rw [bytesOf_length]; exact Nat.le_refl _)]
  simp [tw]

set_option maxHeartbeats 2000000 in
set_option maxRecDepth 100000 in
theorem endOf_name (s : ByteArray) (p : Nat) (hp : p ≤ s.size) (hs : s.size ≤ 65536) (w : World) :
    Calls Tryz.prog 95 #[.string s, .int .i64 p, .func (Fn.func 96) #[] #[]] w fun e w' => e = .returned (.int .i64 ((p + tw isLD ((bytesOf s).drop p) : Nat) : Int)) ∧ w' = w := by
  have HS : Hid (s.size ≤ 65536) := hs
  clear hs
  go_enter Tryz.func95, Tryz.ntmps95
  go_wp2
  go_loop [1] (fun iv => ∃ a : Nat, p ≤ a ∧ a ≤ s.size ∧ iv = .int .i64 (a : Int) ∧ p + tw isLD ((bytesOf s).drop p) = a + tw isLD ((bytesOf s).drop a))
    (fun iv => s.size - (intOf iv).toNat)
  case atStart => exact ⟨p, Nat.le_refl _, hp, rfl, rfl⟩
  case round =>
    obtain ⟨a, hpa, has, rfl, hrel⟩ := hrel
    have HR : Hid _ := hrel
    clear hrel hp
    by_cases hlt : a < s.size
    · have hlt' : (a : Int) < (s.size : Int) := by omega
      have hle' : (a : Int) ≤ 65536 := by have := HS.out; omega
      cases hb : isLD s[a] with
      | true =>
        have HB : Hid _ := hb
        clear hb
        go_wp2_with (first
          | (go_at_call 96; refine (isLoD_any _ _).mono ?_; rintro e w1 ⟨rfl, hw⟩; replace hw := hw.symm; subst hw; rw [HB.out]))
        go_round
        case rel => exact ⟨a + 1, by omega, by omega, by go_num, HR.out.trans (tw_yes hlt HB.out)⟩
        case measure => simp [intOf]; omega
      | false =>
        have HB : Hid _ := hb
        clear hb
        go_wp2_with (first
          | (go_at_call 96; refine (isLoD_any _ _).mono ?_; rintro e w1 ⟨rfl, hw⟩; replace hw := hw.symm; subst hw; rw [HB.out]))
        go_ret
        exact ⟨ret_i64 (by have := HR.out; rw [tw_no hlt HB.out] at this; omega), rfl⟩
    · have hlt' : ¬ (a : Int) < (s.size : Int) := by omega
      have has2 : a = s.size := by omega
      subst has2
      go_wp2
      go_ret
      exact ⟨ret_i64 (by have := HR.out; rw [tw_end] at this; omega), rfl⟩

set_option maxHeartbeats 2000000 in
set_option maxRecDepth 100000 in
theorem endOf_num (s : ByteArray) (p : Nat) (hp : p ≤ s.size) (hs : s.size ≤ 65536) (w : World) :
    Calls Tryz.prog 95 #[.string s, .int .i64 p, .func (Fn.func 72) #[] #[]] w fun e w' => e = .returned (.int .i64 ((p + tw isDig ((bytesOf s).drop p) : Nat) : Int)) ∧ w' = w := by
  have HS : Hid (s.size ≤ 65536) := hs
  clear hs
  go_enter Tryz.func95, Tryz.ntmps95
  go_wp2
  go_loop [1] (fun iv => ∃ a : Nat, p ≤ a ∧ a ≤ s.size ∧ iv = .int .i64 (a : Int) ∧ p + tw isDig ((bytesOf s).drop p) = a + tw isDig ((bytesOf s).drop a))
    (fun iv => s.size - (intOf iv).toNat)
  case atStart => exact ⟨p, Nat.le_refl _, hp, rfl, rfl⟩
  case round =>
    obtain ⟨a, hpa, has, rfl, hrel⟩ := hrel
    have HR : Hid _ := hrel
    clear hrel hp
    by_cases hlt : a < s.size
    · have hlt' : (a : Int) < (s.size : Int) := by omega
      have hle' : (a : Int) ≤ 65536 := by have := HS.out; omega
      cases hb : isDig s[a] with
      | true =>
        have HB : Hid _ := hb
        clear hb
        go_wp2_with (first
          | (go_at_call 72; refine (isDigit_any _ _).mono ?_; rintro e w1 ⟨rfl, hw⟩; replace hw := hw.symm; subst hw; rw [HB.out]))
        go_round
        case rel => exact ⟨a + 1, by omega, by omega, by go_num, HR.out.trans (tw_yes hlt HB.out)⟩
        case measure => simp [intOf]; omega
      | false =>
        have HB : Hid _ := hb
        clear hb
        go_wp2_with (first
          | (go_at_call 72; refine (isDigit_any _ _).mono ?_; rintro e w1 ⟨rfl, hw⟩; replace hw := hw.symm; subst hw; rw [HB.out]))
        go_ret
        exact ⟨ret_i64 (by have := HR.out; rw [tw_no hlt HB.out] at this; omega), rfl⟩
    · have hlt' : ¬ (a : Int) < (s.size : Int) := by omega
      have has2 : a = s.size := by omega
      subst has2
      go_wp2
      go_ret
      exact ⟨ret_i64 (by have := HR.out; rw [tw_end] at this; omega), rfl⟩

set_option maxHeartbeats 400000 in
theorem piece_any (s : ByteArray) (a b : Nat) (hab : a ≤ b) (hb : b ≤ s.size) (hs : s.size ≤ 65536) (w : World) :
    Calls Tryz.prog 97 #[.string s, .int .i64 a, .int .i64 b] w fun e w' => e = .returned (.string (s.extract a b)) ∧ Kept [] w w' := by
  have h0 : (0 : Int) ≤ (a : Int) := by omega
  have h1 : (a : Int) ≤ (b : Int) := by omega
  have h2 : (b : Int) ≤ (s.size : Int) := by omega
  have HC : Hid (∀ w, _) := fun w => Clone_any (s.extract a b) w (by simp; omega)
  go_enter Tryz.func97, Tryz.ntmps97
  go_wp2_with (first
    | (go_at_call 111; refine (HC.out _).mono ?_; rintro e w1 ⟨rfl, hk⟩))
  go_ret
  exact ⟨rfl, hk⟩

theorem valD_snoc (l : List UInt8) (c : UInt8) : valD (l ++ [c]) = valD l * 10 + (c.toNat - 48) := by simp [valD, List.foldl_append]

theorem valD_acc : ∀ (l : List UInt8) (acc : Nat), (∀ c ∈ l, isDig c = true) → l.foldl (fun n c => n * 10 + (c.toNat - 48)) acc < (acc + 1) * 10 ^ l.length
  | [], acc, _ => by simp
  | c :: r, acc, h => by
    have h2 := h c (by simp)
    rw [isDig_int] at h2
    simp at h2
    have ih := valD_acc r (acc * 10 + (c.toNat - 48)) (fun x hx => h x (by simp [hx]))
    rw [List.foldl_cons, List.length_cons, Nat.pow_succ]
    refine Nat.lt_of_lt_of_le ih ?_
    rw [Nat.mul_comm (10 ^ r.length) 10, ← Nat.mul_assoc]
    exact Nat.mul_le_mul_right _ (by omega)

theorem valD_lt (l : List UInt8) (h : ∀ c ∈ l, isDig c = true) : valD l < 10 ^ l.length := by
  have := valD_acc l 0 h
  simpa [valD] using this

theorem at_mem (s : ByteArray) (i : Nat) (h : i < s.size) : s[i] ∈ bytesOf s := by
  have e : (bytesOf s)[i]'(by rw [bytesOf_length]; exact h) = s[i] := by simp [bytesOf]; rfl
  rw [← e]
  exact List.getElem_mem _

theorem take_snoc (s : ByteArray) (i : Nat) (h : i < s.size) : (bytesOf s).take (i + 1) = (bytesOf s).take i ++ [s[i]] := by
  rw [List.take_add_one, List.getElem?_eq_getElem (by rw [bytesOf_length]; exact h)]
  simp [bytesOf]; rfl

set_option maxHeartbeats 2000000 in
set_option maxRecDepth 100000 in
theorem value_any (s : ByteArray) (hd : ∀ c ∈ bytesOf s, isDig c = true) (hs : s.size ≤ 10) (w : World) :
    Calls Tryz.prog 99 #[.string s] w fun e w' => e = .returned (.int .i64 (valD (bytesOf s) : Int)) ∧ w' = w := by
  have HD : Hid _ := hd
  clear hd
  go_enter Tryz.func99, Tryz.ntmps99
  go_wp2
  go_loop [3, 7] (fun nv iv => ∃ (i n : Nat), i ≤ s.size ∧ n = valD ((bytesOf s).take i) ∧ nv = .int .i64 (n : Int) ∧ iv = .int .i64 (i : Int))
    (fun _ iv => s.size - (intOf iv).toNat)
  case atStart => exact ⟨0, 0, Nat.zero_le _, rfl, rfl, rfl⟩
  case round =>
    obtain ⟨i, n, his, hn, rfl, rfl⟩ := hrel
    have hb : n < 10 ^ i := by
      rw [hn]
      have h1 := valD_lt ((bytesOf s).take i) (fun c hc => HD.out c (List.mem_of_mem_take hc))
      rw [List.length_take, bytesOf_length, Nat.min_eq_left his] at h1
      exact h1
    have HN : Hid _ := hn
    clear hn
    by_cases hlt : i < s.size
    · have hlt' : (i : Int) < (s.size : Int) := by omega
      have hdg := HD.out s[i] (at_mem s i hlt)
      rw [isDig_int] at hdg
      simp at hdg
      obtain ⟨h48, h57⟩ := hdg
      have hn10 : (n : Int) < 1000000000 := by
        have h1 : (10 : Nat) ^ i ≤ 10 ^ 9 := Nat.pow_le_pow_right (by decide) (by omega)
        have h2 : (10 : Nat) ^ 9 = 1000000000 := by decide
        omega
      clear hb
      go_wp2
      go_round
      case rel => exact ⟨i + 1, n * 10 + (s[i].toNat - 48), hlt, by rw [take_snoc s i hlt, valD_snoc, ← HN.out], by congr 1; omega, by go_num⟩
      case measure => simp [intOf]; omega
    · have hlt' : ¬ (i : Int) < (s.size : Int) := by omega
      clear hb
      go_wp2
      go_ret
      refine ⟨ret_i64 ?_, rfl⟩
      rw [HN.out, List.take_of_length_le (by rw [bytesOf_length]; omega)]

end Go.Proofs.YthmdgbmodgfcmaaGreatDoor
