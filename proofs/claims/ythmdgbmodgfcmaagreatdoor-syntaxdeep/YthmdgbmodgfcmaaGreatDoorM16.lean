/-
  LBlanks, LEnds, LWordV, LName, LNumber, LSign.
-/
import Derived.Deep.LoopGhost
import Derived.Test.YthmdgbmodgfcmaaGreatDoorM15
import Derived.Test.YthmdgbmodgfcmaaGreatDoorM7
/-
  What skipBlanks does: how many bytes of blanks stand ahead.
-/
namespace Go.Proofs.YthmdgbmodgfcmaaGreatDoor
open Go.RowKit

/-- Does a remark begin here? -/
def remAt (l : List UInt8) : Bool := decide (l.take 2 = [47, 42])

theorem ret_bool {a b : Bool} (h : a = b) : Ending.returned (.bool a) = .returned (.bool b) := by rw [h]

set_option maxHeartbeats 400000 in
theorem sHasPrefix_any (s : ByteArray) (w : World) :
    Calls Tryz.prog 93 #[.string s, .string ⟨#[47, 42]⟩] w fun e w' => e = .returned (.bool (remAt (bytesOf s))) ∧ w' = w := by
  by_cases h : 2 ≤ s.size
  · have h1 : (2 : Int) ≤ (s.size : Int) := by omega
    go_enter Tryz.func93, Tryz.ntmps93
    go_wp2
    go_ret
    refine ⟨ret_bool ?_, rfl⟩
    rw [toList_bytes, bytes_extract, List.drop_zero]
    unfold remAt
    rw [Bool.eq_iff_iff]
    simp
  · have h1 : ¬ (2 : Int) ≤ (s.size : Int) := by omega
    go_enter Tryz.func93, Tryz.ntmps93
    go_wp2
    go_ret
    refine ⟨ret_bool ?_, rfl⟩
    have hn : ¬ (bytesOf s).take 2 = [47, 42] := fun e => by
      have h2 : ((bytesOf s).take 2).length = 2 := by rw [e]; rfl
      rw [List.length_take, bytesOf_length] at h2
      omega
    exact (decide_eq_false hn).symm

theorem index_rem : ∀ (l : List UInt8), Lib.index l [42, 47] = match remEnd l with | none => -1 | some k => (k : Int)
  | [] => by simp [Lib.index, remEnd]
  | c :: r => by
    have ih := index_rem r
    have e : List.isPrefixOf [42, 47] (c :: r) = (c == 42 && r.head? == some 47) := by
      cases r with
      | nil => simp [List.isPrefixOf]
      | cons d t =>
        simp only [List.isPrefixOf, List.head?_cons, Bool.and_true]
        have e1 : ((42 : UInt8) == c) = (c == 42) := Bool.eq_iff_iff.2 (by rw [beq_iff_eq, beq_iff_eq]; exact eq_comm)
        have e2 : ((47 : UInt8) == d) = (some d == some 47) := Bool.eq_iff_iff.2 (by rw [beq_iff_eq, beq_iff_eq, Option.some.injEq]; exact eq_comm)
        rw [e1, e2]
    rw [Lib.index, e, remEnd]
    by_cases h : (c == 42 && r.head? == some 47) = true
    · simp [h]
    · simp only [h, ih]
      cases remEnd r with
      | none => simp
      | some k =>
        have : ¬ ((k : Int) = -1) := by omega
        simp [this]

set_option maxHeartbeats 400000 in
theorem HasPrefix_any (s : ByteArray) (w : World) :
    Calls Tryz.prog 68 #[.string s, .string ⟨#[47, 42]⟩] w fun e w' => e = .returned (.bool (remAt (bytesOf s))) ∧ w' = w := by
  go_enter Tryz.func68, Tryz.ntmps68
  go_wp2_with (go_at_call 93; refine (sHasPrefix_any _ _).mono ?_; rintro e w1 ⟨rfl, rfl⟩)
  go_ret
  exact ⟨rfl, rfl⟩

theorem Index_any (s : ByteArray) (w : World) (hs : s.size ≤ 65536) (hG : G w) :
    Calls Tryz.prog 69 #[.string s, .string ⟨#[42, 47]⟩] w fun e w' => e = .returned (.int .i64 (match remEnd (bytesOf s) with | none => -1 | some k => (k : Int))) ∧ w' = w := by
  obtain ⟨m, hm⟩ := hG
  refine (Tryz.strings_Index s ⟨#[42, 47]⟩ m w (by omega) hm).mono ?_
  rintro e w1 ⟨rfl, rfl⟩
  exact ⟨by rw [show s.data.toList = bytesOf s from rfl, show (⟨#[42, 47]⟩ : ByteArray).data.toList = [42, 47] from rfl, index_rem], rfl⟩

/-- What skipBlanks hands back. -/
def skipV (s : ByteArray) (p : Nat) : Value := match skip ((bytesOf s).drop p) with
  | none => .tuple #[.int .i64 0, .agg #[.int .i64 21, .int .i64 s.size]]
  | some n => .tuple #[.int .i64 ((p + n : Nat) : Int), .agg #[.int .i64 0, .int .i64 0]]

theorem skipV_none {s : ByteArray} {p : Nat} (h : skip ((bytesOf s).drop p) = none) : skipV s p = .tuple #[.int .i64 0, .agg #[.int .i64 21, .int .i64 s.size]] := by unfold skipV; rw [h]
theorem skipV_some {s : ByteArray} {p n : Nat} (h : skip ((bytesOf s).drop p) = some n) : skipV s p = .tuple #[.int .i64 ((p + n : Nat) : Int), .agg #[.int .i64 0, .int .i64 0]] := by unfold skipV; rw [h]

theorem remEnd_lt : ∀ {l : List UInt8} {k : Nat}, remEnd l = some k → k + 2 ≤ l.length
  | [], _, h => by simp [remEnd] at h
  | c :: r, k, h => by
    unfold remEnd at h
    split at h
    · rename_i hc
      cases h
      cases r with
      | nil => simp at hc
      | cons d t => simp
    · cases hr : remEnd r with
      | none => rw [hr] at h; simp at h
      | some j =>
        rw [hr] at h
        have := remEnd_lt hr
        simp at h ⊢
        omega

theorem skipV_step {s : ByteArray} {a b : Nat} {d : Nat} (hb : b = a + d) (h : skip ((bytesOf s).drop a) = (skip ((bytesOf s).drop b)).map (· + d)) : skipV s a = skipV s b := by
  unfold skipV
  rw [h]
  cases skip ((bytesOf s).drop b) with
  | none => rfl
  | some n =>
    simp only [Option.map_some]
    rw [show a + (n + d) = b + n by omega]

theorem skipV_blank {s : ByteArray} {a : Nat} (h : a < s.size) (hb : isBl s[a] = true) : skipV s a = skipV s (a + 1) :=
  skipV_step (d := 1) rfl (by rw [drop_at s a h, skip_blank hb])

theorem remAt_form {s : ByteArray} {a : Nat} (h : remAt ((bytesOf s).drop a) = true) : (bytesOf s).drop a = 47 :: 42 :: (bytesOf s).drop (a + 2) ∧ a + 2 ≤ s.size := by
  have h1 : ((bytesOf s).drop a).take 2 = [47, 42] := of_decide_eq_true h
  have h2 := List.take_append_drop 2 ((bytesOf s).drop a)
  rw [h1, List.drop_drop] at h2
  refine ⟨h2.symm, ?_⟩
  have h3 : (((bytesOf s).drop a).take 2).length = 2 := by rw [h1]; rfl
  rw [List.length_take, List.length_drop, bytesOf_length] at h3
  omega

theorem remAt_head (c : UInt8) (r : List UInt8) : remAt (c :: r) = (c == 47 && r.head? == some 42) := by
  unfold remAt
  cases r with
  | nil => simp
  | cons d t => rw [Bool.eq_iff_iff]; simp

theorem skipV_rem {s : ByteArray} {a k : Nat} (h : remAt ((bytesOf s).drop a) = true) (hk : remEnd ((bytesOf s).drop (a + 2)) = some k) : skipV s a = skipV s (a + 2 + k + 2) :=
  skipV_step (d := k + 4) (by omega) (by rw [(remAt_form h).1, skip_rem hk, List.drop_drop, show a + 2 + (k + 2) = a + 2 + k + 2 by omega])

theorem skipV_open {s : ByteArray} {a : Nat} (h : remAt ((bytesOf s).drop a) = true) (hk : remEnd ((bytesOf s).drop (a + 2)) = none) : skipV s a = .tuple #[.int .i64 0, .agg #[.int .i64 21, .int .i64 s.size]] :=
  skipV_none (by rw [(remAt_form h).1, skip_open hk])

theorem skipV_stop {s : ByteArray} {a : Nat} (h : a < s.size) (hb : isBl s[a] = false) (hr : remAt ((bytesOf s).drop a) = false) : skipV s a = .tuple #[.int .i64 (a : Int), .agg #[.int .i64 0, .int .i64 0]] :=
  skipV_some (n := 0) (by rw [drop_at s a h] at hr ⊢; rw [remAt_head] at hr; exact skip_other hb hr)

theorem skipV_end {s : ByteArray} : skipV s s.size = .tuple #[.int .i64 (s.size : Int), .agg #[.int .i64 0, .int .i64 0]] :=
  skipV_some (n := 0) (by rw [List.drop_eq_nil_of_le (by rw [bytesOf_length]; exact Nat.le_refl _)]; rfl)

set_option maxHeartbeats 4000000 in
set_option maxRecDepth 100000 in
theorem skipBlanks_any (s : ByteArray) (p : Nat) (hp : p ≤ s.size) (hs : s.size ≤ 65536) (w : World) (hG : G w) :
    Calls Tryz.prog 50 #[.string s, .int .i64 p] w fun e w' => e = .returned (skipV s p) ∧ Kept [] w w' := by
  have HS : Hid (s.size ≤ 65536) := hs
  have HG : Hid (G (w.alloc (.cells #[.int .i64 0, .int .i64 0] 26))) := hG.kept (Kept.alloc [] _ _)
  have b5 := heap_alloc_new w (.cells #[.int .i64 0, .int .i64 0] 26)
  clear hs hG
  go_enter Tryz.func50, Tryz.ntmps50
  go_wp2
  go_loop [1] (fun iv => ∃ a : Nat, p ≤ a ∧ a ≤ s.size ∧ iv = .int .i64 (a : Int) ∧ skipV s p = skipV s a)
    (fun iv => s.size - (intOf iv).toNat)
  case atStart => exact ⟨p, Nat.le_refl _, hp, rfl, rfl⟩
  case round =>
    obtain ⟨a, hpa, has, rfl, hskip⟩ := hrel
    have HSK : Hid _ := hskip
    clear hskip hp
    by_cases hlt : a < s.size
    · have hlt' : (a : Int) < (s.size : Int) := by omega
      have hle' : (a : Int) ≤ 65536 := by have := HS.out; omega
      cases hb : isBl s[a] with
      | true =>
        have HB : Hid _ := hb
        clear hb
        go_wp2_with (first
          | (go_at_call 67; refine (isBlank_any _ _).mono ?_; rintro e w1 ⟨rfl, hw⟩; replace hw := hw.symm; subst hw; rw [HB.out]))
        go_round
        case rel => exact ⟨a + 1, by omega, by omega, by go_num, HSK.out.trans (skipV_blank hlt HB.out)⟩
        case measure => simp [intOf]; omega
      | false =>
        have HB : Hid _ := hb
        clear hb
        cases hr : remAt ((bytesOf s).drop a) with
        | true =>
          have HR : Hid _ := hr
          have ha2 := (remAt_form hr).2
          clear hr
          cases hk : remEnd ((bytesOf s).drop (a + 2)) with
          | none =>
            have HK : Hid _ := hk
            clear hk
            go_wp2_with (first
              | (go_at_call 67; refine (isBlank_any _ _).mono ?_; rintro e w1 ⟨rfl, hw⟩; replace hw := hw.symm; subst hw; rw [HB.out])
              | (go_at_call 68; refine (HasPrefix_any _ _).mono ?_; rintro e w1 ⟨rfl, hw⟩; replace hw := hw.symm; subst hw; rw [bytes_tail, HR.out])
              | (go_at_call 69; refine (Index_any _ _ (by simp; have := HS.out; omega) HG.out).mono ?_; rintro e w1 ⟨rfl, hw⟩; replace hw := hw.symm; subst hw; rw [bytes_tail, HK.out])
              | (go_at_call 49; refine (mishap_any _ _ _).mono ?_; rintro e w1 ⟨rfl, hkm⟩; have b6 := hkm.heap b5 (by simp); have c0 := cell_blk b6 0; have c1 := cell_blk b6 1; have f0 := free_blk b6 0; have f1 := free_blk b6 1; simp at c0 c1))
            have b7 := setCell_blk (i := 1) (u := .int .i64 s.size) (setCell_blk (i := 0) (u := .int .i64 21) b6)
            have e0 := cell_blk b7 0
            have e1 := cell_blk b7 1
            simp at e0 e1
            refine bodyPost_ret (v := .tuple #[.int .i64 0, .agg #[.int .i64 21, .int .i64 s.size]]) ?_ rfl ⟨?_, ?_⟩
            · simp only [results, Tryz.results50]
              simp [go_sem, e0, e1]
            · rw [HSK.out, skipV_open HR.out HK.out]
            · exact (((Kept.alloc [] w _).trans hkm (by simp)).trans (Kept.setCell _ _ _) (by simp)).trans (Kept.setCell _ _ _) (by simp)
          | some k =>
            have HK : Hid _ := hk
            have hk2 := remEnd_lt hk
            rw [List.length_drop, bytesOf_length] at hk2
            have hk3 : (k : Int) ≤ 65536 := by have := HS.out; omega
            clear hk
            go_wp2_with (first
              | (go_at_call 67; refine (isBlank_any _ _).mono ?_; rintro e w1 ⟨rfl, hw⟩; replace hw := hw.symm; subst hw; rw [HB.out])
              | (go_at_call 68; refine (HasPrefix_any _ _).mono ?_; rintro e w1 ⟨rfl, hw⟩; replace hw := hw.symm; subst hw; rw [bytes_tail, HR.out])
              | (go_at_call 69; refine (Index_any _ _ (by simp; have := HS.out; omega) HG.out).mono ?_; rintro e w1 ⟨rfl, hw⟩; replace hw := hw.symm; subst hw; rw [bytes_tail, HK.out]))
            go_round
            case rel => exact ⟨a + 2 + k + 2, by omega, by omega, by go_num, HSK.out.trans (skipV_rem HR.out HK.out)⟩
            case measure => simp [intOf]; omega
        | false =>
          have HR : Hid _ := hr
          clear hr
          go_wp2_with (first
            | (go_at_call 67; refine (isBlank_any _ _).mono ?_; rintro e w1 ⟨rfl, hw⟩; replace hw := hw.symm; subst hw; rw [HB.out])
            | (go_at_call 68; refine (HasPrefix_any _ _).mono ?_; rintro e w1 ⟨rfl, hw⟩; replace hw := hw.symm; subst hw; rw [bytes_tail, HR.out]))
          go_returns
          exact ⟨by rw [HSK.out, skipV_stop hlt HB.out HR.out], Kept.alloc [] _ _⟩
    · have hlt' : ¬ (a : Int) < (s.size : Int) := by omega
      have has2 : a = s.size := by omega
      subst has2
      go_wp2
      go_returns
      exact ⟨by rw [HSK.out, skipV_end], Kept.alloc [] _ _⟩
end Go.Proofs.YthmdgbmodgfcmaaGreatDoor
/-
  What endOf, piece, value do: where the bytes of a word end; a copy; what digits say.
-/
namespace Go.Proofs.YthmdgbmodgfcmaaGreatDoor
open Go.RowKit

theorem ret_i64 {a b : Int} (h : a = b) : Ending.returned (.int .i64 a) = .returned (.int .i64 b) := by rw [h]

/-- How many bytes ahead belong to a word. -/
def tw (pred : UInt8 → Bool) (l : List UInt8) : Nat := (l.takeWhile pred).length

theorem tw_yes {pred : UInt8 → Bool} {s : ByteArray} {a : Nat} (h : a < s.size) (hp : pred s[a] = true) : a + tw pred ((bytesOf s).drop a) = (a + 1) + tw pred ((bytesOf s).drop (a + 1)) := by
  rw [drop_at s a h]
  simp [tw, hp]
  omega
theorem tw_no {pred : UInt8 → Bool} {s : ByteArray} {a : Nat} (h : a < s.size) (hp : pred s[a] = false) : a + tw pred ((bytesOf s).drop a) = a := by
  rw [drop_at s a h]
  simp [tw, hp]
theorem tw_end {pred : UInt8 → Bool} {s : ByteArray} : s.size + tw pred ((bytesOf s).drop s.size) = s.size := by
  rw [List.drop_eq_nil_of_le (by rw [bytesOf_length]; exact Nat.le_refl _)]
  simp [tw]

set_option maxHeartbeats 2000000 in
set_option maxRecDepth 100000 in
theorem endOf_name (s : ByteArray) (p : Nat) (hp : p ≤ s.size) (hs : s.size ≤ 65536) (w : World) :
    Calls Tryz.prog 95 #[.string s, .int .i64 p, .func (Fn.func 96) #[] #[]] w fun e w' => e = .returned (.int .i64 ((p + tw isLD ((bytesOf s).drop p) : Nat) : Int)) ∧ w' = w := by
  have HS : Hid (s.size ≤ 65536) := hs
  clear hs
  go_enter Tryz.func95, Tryz.ntmps95
  go_wp2
  go_loop [1] (fun iv => ∃ a : Nat, p ≤ a ∧ a ≤ s.size ∧ iv = .int .i64 (a : Int) ∧ p + tw isLD ((bytesOf s).drop p) = a + tw isLD ((bytesOf s).drop a))
    (fun iv => s.size - (intOf iv).toNat)
  case atStart => exact ⟨p, Nat.le_refl _, hp, rfl, rfl⟩
  case round =>
    obtain ⟨a, hpa, has, rfl, hrel⟩ := hrel
    have HR : Hid _ := hrel
    clear hrel hp
    by_cases hlt : a < s.size
    · have hlt' : (a : Int) < (s.size : Int) := by omega
      have hle' : (a : Int) ≤ 65536 := by have := HS.out; omega
      cases hb : isLD s[a] with
      | true =>
        have HB : Hid _ := hb
        clear hb
        go_wp2_with (first
          | (go_at_call 96; refine (isLoD_any _ _).mono ?_; rintro e w1 ⟨rfl, hw⟩; replace hw := hw.symm; subst hw; rw [HB.out]))
        go_round
        case rel => exact ⟨a + 1, by omega, by omega, by go_num, HR.out.trans (tw_yes hlt HB.out)⟩
        case measure => simp [intOf]; omega
      | false =>
        have HB : Hid _ := hb
        clear hb
        go_wp2_with (first
          | (go_at_call 96; refine (isLoD_any _ _).mono ?_; rintro e w1 ⟨rfl, hw⟩; replace hw := hw.symm; subst hw; rw [HB.out]))
        go_ret
        exact ⟨ret_i64 (by have := HR.out; rw [tw_no hlt HB.out] at this; omega), rfl⟩
    · have hlt' : ¬ (a : Int) < (s.size : Int) := by omega
      have has2 : a = s.size := by omega
      subst has2
      go_wp2
      go_ret
      exact ⟨ret_i64 (by have := HR.out; rw [tw_end] at this; omega), rfl⟩

set_option maxHeartbeats 2000000 in
set_option maxRecDepth 100000 in
theorem endOf_num (s : ByteArray) (p : Nat) (hp : p ≤ s.size) (hs : s.size ≤ 65536) (w : World) :
    Calls Tryz.prog 95 #[.string s, .int .i64 p, .func (Fn.func 72) #[] #[]] w fun e w' => e = .returned (.int .i64 ((p + tw isDig ((bytesOf s).drop p) : Nat) : Int)) ∧ w' = w := by
  have HS : Hid (s.size ≤ 65536) := hs
  clear hs
  go_enter Tryz.func95, Tryz.ntmps95
  go_wp2
  go_loop [1] (fun iv => ∃ a : Nat, p ≤ a ∧ a ≤ s.size ∧ iv = .int .i64 (a : Int) ∧ p + tw isDig ((bytesOf s).drop p) = a + tw isDig ((bytesOf s).drop a))
    (fun iv => s.size - (intOf iv).toNat)
  case atStart => exact ⟨p, Nat.le_refl _, hp, rfl, rfl⟩
  case round =>
    obtain ⟨a, hpa, has, rfl, hrel⟩ := hrel
    have HR : Hid _ := hrel
    clear hrel hp
    by_cases hlt : a < s.size
    · have hlt' : (a : Int) < (s.size : Int) := by omega
      have hle' : (a : Int) ≤ 65536 := by have := HS.out; omega
      cases hb : isDig s[a] with
      | true =>
        have HB : Hid _ := hb
        clear hb
        go_wp2_with (first
          | (go_at_call 72; refine (isDigit_any _ _).mono ?_; rintro e w1 ⟨rfl, hw⟩; replace hw := hw.symm; subst hw; rw [HB.out]))
        go_round
        case rel => exact ⟨a + 1, by omega, by omega, by go_num, HR.out.trans (tw_yes hlt HB.out)⟩
        case measure => simp [intOf]; omega
      | false =>
        have HB : Hid _ := hb
        clear hb
        go_wp2_with (first
          | (go_at_call 72; refine (isDigit_any _ _).mono ?_; rintro e w1 ⟨rfl, hw⟩; replace hw := hw.symm; subst hw; rw [HB.out]))
        go_ret
        exact ⟨ret_i64 (by have := HR.out; rw [tw_no hlt HB.out] at this; omega), rfl⟩
    · have hlt' : ¬ (a : Int) < (s.size : Int) := by omega
      have has2 : a = s.size := by omega
      subst has2
      go_wp2
      go_ret
      exact ⟨ret_i64 (by have := HR.out; rw [tw_end] at this; omega), rfl⟩

set_option maxHeartbeats 400000 in
theorem piece_any (s : ByteArray) (a b : Nat) (hab : a ≤ b) (hb : b ≤ s.size) (hs : s.size ≤ 65536) (w : World) :
    Calls Tryz.prog 97 #[.string s, .int .i64 a, .int .i64 b] w fun e w' => e = .returned (.string (s.extract a b)) ∧ Kept [] w w' := by
  have h0 : (0 : Int) ≤ (a : Int) := by omega
  have h1 : (a : Int) ≤ (b : Int) := by omega
  have h2 : (b : Int) ≤ (s.size : Int) := by omega
  have HC : Hid (∀ w, _) := fun w => Clone_any (s.extract a b) w (by simp; omega)
  go_enter Tryz.func97, Tryz.ntmps97
  go_wp2_with (first
    | (go_at_call 111; refine (HC.out _).mono ?_; rintro e w1 ⟨rfl, hk⟩))
  go_ret
  exact ⟨rfl, hk⟩

theorem valD_snoc (l : List UInt8) (c : UInt8) : valD (l ++ [c]) = valD l * 10 + (c.toNat - 48) := by simp [valD, List.foldl_append]

theorem valD_acc : ∀ (l : List UInt8) (acc : Nat), (∀ c ∈ l, isDig c = true) → l.foldl (fun n c => n * 10 + (c.toNat - 48)) acc < (acc + 1) * 10 ^ l.length
  | [], acc, _ => by simp
  | c :: r, acc, h => by
    have h2 := h c (by simp)
    rw [isDig_int] at h2
    simp at h2
    have ih := valD_acc r (acc * 10 + (c.toNat - 48)) (fun x hx => h x (by simp [hx]))
    rw [List.foldl_cons, List.length_cons, Nat.pow_succ]
    refine Nat.lt_of_lt_of_le ih ?_
    rw [Nat.mul_comm (10 ^ r.length) 10, ← Nat.mul_assoc]
    exact Nat.mul_le_mul_right _ (by omega)

theorem valD_lt (l : List UInt8) (h : ∀ c ∈ l, isDig c = true) : valD l < 10 ^ l.length := by
  have := valD_acc l 0 h
  simpa [valD] using this

theorem at_mem (s : ByteArray) (i : Nat) (h : i < s.size) : s[i] ∈ bytesOf s := by
  have e : (bytesOf s)[i]'(by rw [bytesOf_length]; exact h) = s[i] := by simp [bytesOf]; rfl
  rw [← e]
  exact List.getElem_mem _

theorem take_snoc (s : ByteArray) (i : Nat) (h : i < s.size) : (bytesOf s).take (i + 1) = (bytesOf s).take i ++ [s[i]] := by
  rw [List.take_add_one, List.getElem?_eq_getElem (by rw [bytesOf_length]; exact h)]
  simp [bytesOf]; rfl

set_option maxHeartbeats 2000000 in
set_option maxRecDepth 100000 in
theorem value_any (s : ByteArray) (hd : ∀ c ∈ bytesOf s, isDig c = true) (hs : s.size ≤ 10) (w : World) :
    Calls Tryz.prog 99 #[.string s] w fun e w' => e = .returned (.int .i64 (valD (bytesOf s) : Int)) ∧ w' = w := by
  have HD : Hid _ := hd
  clear hd
  go_enter Tryz.func99, Tryz.ntmps99
  go_wp2
  go_loop [3, 7] (fun nv iv => ∃ (i n : Nat), i ≤ s.size ∧ n = valD ((bytesOf s).take i) ∧ nv = .int .i64 (n : Int) ∧ iv = .int .i64 (i : Int))
    (fun _ iv => s.size - (intOf iv).toNat)
  case atStart => exact ⟨0, 0, Nat.zero_le _, rfl, rfl, rfl⟩
  case round =>
    obtain ⟨i, n, his, hn, rfl, rfl⟩ := hrel
    have hb : n < 10 ^ i := by
      rw [hn]
      have h1 := valD_lt ((bytesOf s).take i) (fun c hc => HD.out c (List.mem_of_mem_take hc))
      rw [List.length_take, bytesOf_length, Nat.min_eq_left his] at h1
      exact h1
    have HN : Hid _ := hn
    clear hn
    by_cases hlt : i < s.size
    · have hlt' : (i : Int) < (s.size : Int) := by omega
      have hdg := HD.out s[i] (at_mem s i hlt)
      rw [isDig_int] at hdg
      simp at hdg
      obtain ⟨h48, h57⟩ := hdg
      have hn10 : (n : Int) < 1000000000 := by
        have h1 : (10 : Nat) ^ i ≤ 10 ^ 9 := Nat.pow_le_pow_right (by decide) (by omega)
        have h2 : (10 : Nat) ^ 9 = 1000000000 := by decide
        omega
      clear hb
      go_wp2
      go_round
      case rel => exact ⟨i + 1, n * 10 + (s[i].toNat - 48), hlt, by rw [take_snoc s i hlt, valD_snoc, ← HN.out], by congr 1; omega, by go_num⟩
      case measure => simp [intOf]; omega
    · have hlt' : ¬ (i : Int) < (s.size : Int) := by omega
      clear hb
      go_wp2
      go_ret
      refine ⟨ret_i64 ?_, rfl⟩
      rw [HN.out, List.take_of_length_le (by rw [bytesOf_length]; omega)]

end Go.Proofs.YthmdgbmodgfcmaaGreatDoor
/-
  What the functions that read a word hand back, and how they leave.
-/
namespace Go.Proofs.YthmdgbmodgfcmaaGreatDoor
open Go.RowKit

/-- A word at the place p, where it ends, what is wrong: as values. -/
def wordV (p : Nat) : Except Mis (Nat × List UInt8 × Nat × Nat) → Value
  | .error (e, k) => .tuple #[.agg #[.int .i64 0, .string ⟨#[]⟩, .int .i64 0, .int .i64 0], .int .i64 0, .agg #[.int .i64 (e : Int), .int .i64 ((p + k : Nat) : Int)]]
  | .ok (kind, t, v, m) => .tuple #[.agg #[.int .i64 (kind : Int), .string (strL t), .int .i64 (v : Int), .int .i64 (p : Int)], .int .i64 ((p + m : Nat) : Int), .agg #[.int .i64 0, .int .i64 0]]

theorem leave3 {fn : Func} (hfn : fn.results = #[.cell 4 104, .tmp 5, .cell 6 26]) {T : Array Value} {W : World} {H : Nat} {a b c d x y v : Value} {R : Ending → World → Prop}
    (h4 : T[4]?.getD undef = .pointer (some ⟨H, 0, none⟩)) (h5 : T[5]?.getD undef = v) (h6 : T[6]?.getD undef = .pointer (some ⟨H + 1, 0, none⟩))
    (b1 : W.heap[H]? = some (.cells #[a, b, c, d] 104 (0, 0))) (b2 : W.heap[H + 1]? = some (.cells #[x, y] 26 (0, 0)))
    (hR : R (.returned (.tuple #[.agg #[a, b, c, d], v, .agg #[x, y]])) W) : bodyPost Tryz.prog fn R .ret { tmps := T, defers := [] } W := by
  have e0 := cell_blk b1 0
  have e1 := cell_blk b1 1
  have e2 := cell_blk b1 2
  have e3 := cell_blk b1 3
  have f0 := cell_blk b2 0
  have f1 := cell_blk b2 1
  simp at e0 e1 e2 e3 f0 f1
  refine bodyPost_ret (v := .tuple #[.agg #[a, b, c, d], v, .agg #[x, y]]) ?_ rfl hR
  simp only [results, hfn]
  simp [h4, h5, h6, go_sem, e0, e1, e2, e3, f0, f1]

theorem tok_set {W : World} {H : Nat} {a b c d a' b' c' d' : Value} {t : TypeId} (h : W.heap[H]? = some (.cells #[a', b', c', d'] t (0, 0))) :
    ((((W.setCell ⟨H, 0, none⟩ a).setCell ⟨H, 1, none⟩ b).setCell ⟨H, 2, none⟩ c).setCell ⟨H, 3, none⟩ d).heap[H]? = some (.cells #[a, b, c, d] t (0, 0)) := by
  have := setCell_blk (i := 3) (u := d) (setCell_blk (i := 2) (u := c) (setCell_blk (i := 1) (u := b) (setCell_blk (i := 0) (u := a) h)))
  simpa using this

theorem mis_set {W : World} {H : Nat} {a b a' b' : Value} {t : TypeId} (h : W.heap[H]? = some (.cells #[a', b'] t (0, 0))) :
    ((W.setCell ⟨H, 0, none⟩ a).setCell ⟨H, 1, none⟩ b).heap[H]? = some (.cells #[a, b] t (0, 0)) := by
  have := setCell_blk (i := 1) (u := b) (setCell_blk (i := 0) (u := a) h)
  simpa using this

theorem set_other {W : World} {H K i : Nat} {u : Value} (h : K ≠ H) : (W.setCell ⟨H, i, none⟩ u).heap[K]? = W.heap[K]? := Below.heap_setCell _ _ _ _ (by simpa using h)

/-- How a function that reads a word leaves: the word's cells and the mishap's are written. -/
theorem leave_word {fn : Func} (hfn : fn.results = #[.cell 4 104, .tmp 5, .cell 6 26]) {T : Array Value} {w W : World} {H : Nat} {a b c d x y v V a' b' c' d' x' y' : Value}
    (h4 : T[4]?.getD undef = .pointer (some ⟨H, 0, none⟩)) (h5 : T[5]?.getD undef = v) (h6 : T[6]?.getD undef = .pointer (some ⟨H + 1, 0, none⟩))
    (b1 : W.heap[H]? = some (.cells #[a', b', c', d'] 104 (0, 0))) (b2 : W.heap[H + 1]? = some (.cells #[x', y'] 26 (0, 0))) (hk : Kept [] w W) (hH : w.heap.size ≤ H)
    (hV : .tuple #[.agg #[a, b, c, d], v, .agg #[x, y]] = V) :
    bodyPost Tryz.prog fn (fun e w' => e = .returned V ∧ Kept [] w w') .ret { tmps := T, defers := [] }
      ((((((W.setCell ⟨H, 0, none⟩ a).setCell ⟨H, 1, none⟩ b).setCell ⟨H, 2, none⟩ c).setCell ⟨H, 3, none⟩ d).setCell ⟨H + 1, 0, none⟩ x).setCell ⟨H + 1, 1, none⟩ y) := by
  have b2' : ((((W.setCell ⟨H, 0, none⟩ a).setCell ⟨H, 1, none⟩ b).setCell ⟨H, 2, none⟩ c).setCell ⟨H, 3, none⟩ d).heap[H + 1]? = some (.cells #[x', y'] 26 (0, 0)) := by
    rw [set_other (by omega), set_other (by omega), set_other (by omega), set_other (by omega)]; exact b2
  refine leave3 hfn h4 h5 h6 (a := a) (b := b) (c := c) (d := d) (x := x) (y := y) ?_ (mis_set b2') ⟨by rw [hV], ?_⟩
  · rw [set_other (by omega), set_other (by omega)]; exact tok_set b1
  · exact (((((hk.trans (Kept.setCell _ _ _) (by simp; omega)).trans (Kept.setCell _ _ _) (by simp; omega)).trans (Kept.setCell _ _ _) (by simp; omega)).trans (Kept.setCell _ _ _) (by simp; omega)).trans (Kept.setCell _ _ _) (by simp; omega)).trans (Kept.setCell _ _ _) (by simp; omega)

/-- The cells of the answers, as they were made. -/
def Two (W : World) (H : Nat) : Prop := W.heap[H]? = some (.cells #[.int .i64 0, .string ⟨#[]⟩, .int .i64 0, .int .i64 0] 104 (0, 0)) ∧ W.heap[H + 1]? = some (.cells #[.int .i64 0, .int .i64 0] 26 (0, 0))

theorem two_new (w : World) : Two ((w.alloc (.cells #[.int .i64 0, .string ⟨#[]⟩, .int .i64 0, .int .i64 0] 104)).alloc (.cells #[.int .i64 0, .int .i64 0] 26)) w.heap.size := by
  have h1 := heap_alloc_new w (.cells #[.int .i64 0, .string ⟨#[]⟩, .int .i64 0, .int .i64 0] 104)
  have h2 := heap_alloc_new (w.alloc (.cells #[.int .i64 0, .string ⟨#[]⟩, .int .i64 0, .int .i64 0] 104)) (.cells #[.int .i64 0, .int .i64 0] 26)
  rw [World.size_alloc] at h2
  exact ⟨(Kept.alloc [] _ _).heap h1 (by simp), h2⟩

theorem Two.kept {W W' : World} {H : Nat} (h : Two W H) (hk : Kept [] W W') : Two W' H := ⟨hk.heap h.1 (by simp), hk.heap h.2 (by simp)⟩

theorem Two.facts {W : World} {H : Nat} (h : Two W H) :
    (W.cell? ⟨H, 0, none⟩ = some (.int .i64 0) ∧ W.cell? ⟨H, 1, none⟩ = some (.string ⟨#[]⟩) ∧ W.cell? ⟨H, 2, none⟩ = some (.int .i64 0) ∧ W.cell? ⟨H, 3, none⟩ = some (.int .i64 0) ∧ W.cell? ⟨H + 1, 0, none⟩ = some (.int .i64 0) ∧ W.cell? ⟨H + 1, 1, none⟩ = some (.int .i64 0)) ∧
    (W.frozen? ⟨H, 0, none⟩ = false ∧ W.frozen? ⟨H, 1, none⟩ = false ∧ W.frozen? ⟨H, 2, none⟩ = false ∧ W.frozen? ⟨H, 3, none⟩ = false ∧ W.frozen? ⟨H + 1, 0, none⟩ = false ∧ W.frozen? ⟨H + 1, 1, none⟩ = false) := by
  have e0 := cell_blk h.1 0
  have e1 := cell_blk h.1 1
  have e2 := cell_blk h.1 2
  have e3 := cell_blk h.1 3
  have f0 := cell_blk h.2 0
  have f1 := cell_blk h.2 1
  simp at e0 e1 e2 e3 f0 f1
  exact ⟨⟨e0, e1, e2, e3, f0, f1⟩, free_blk h.1 0, free_blk h.1 1, free_blk h.1 2, free_blk h.1 3, free_blk h.2 0, free_blk h.2 1⟩

theorem Two.ne1 {W : World} {H : Nat} (h : Two W H) : ¬ H = W.heap.size := Nat.ne_of_lt (lt_of_block h.1)
theorem Two.ne2 {W : World} {H : Nat} (h : Two W H) : ¬ H + 1 = W.heap.size := Nat.ne_of_lt (lt_of_block h.2)

theorem kept_two (w : World) (S : List Nat) : Kept S w ((w.alloc (.cells #[.int .i64 0, .string ⟨#[]⟩, .int .i64 0, .int .i64 0] 104)).alloc (.cells #[.int .i64 0, .int .i64 0] 26)) :=
  (Kept.alloc S _ _).trans (Kept.alloc S _ _) (fun _ hx => .inl hx)

end Go.Proofs.YthmdgbmodgfcmaaGreatDoor
/-
  What readName does.
-/
namespace Go.Proofs.YthmdgbmodgfcmaaGreatDoor
open Go.RowKit

theorem wordOf_name {c : UInt8} {r : List UInt8} (h : isLet c = true) : wordOf c r = if 32 < tw isLD (c :: r) then .error (22, 0) else .ok (if (c :: r).takeWhile isLD ∈ keyNames then 4 else 1, (c :: r).takeWhile isLD, 0, tw isLD (c :: r)) := by
  unfold wordOf; rw [if_pos h]; rfl

theorem take_tw (pred : UInt8 → Bool) (l : List UInt8) : l.take (tw pred l) = l.takeWhile pred := by
  unfold tw
  induction l with
  | nil => rfl
  | cons c r ih =>
    by_cases h : pred c = true
    · simp [h, ih]
    · simp [h]

theorem piece_tw (s : ByteArray) (p : Nat) (pred : UInt8 → Bool) : s.extract p (p + tw pred ((bytesOf s).drop p)) = strL (((bytesOf s).drop p).takeWhile pred) := by
  rw [extract_eq, ← take_tw, List.drop_take, show p + tw pred ((bytesOf s).drop p) - p = tw pred ((bytesOf s).drop p) by omega]

theorem tw_le (s : ByteArray) (p : Nat) (pred : UInt8 → Bool) (h : p ≤ s.size) : p + tw pred ((bytesOf s).drop p) ≤ s.size := by
  have : tw pred ((bytesOf s).drop p) ≤ ((bytesOf s).drop p).length := (List.takeWhile_sublist _).length_le
  rw [List.length_drop, bytesOf_length] at this
  omega

set_option maxHeartbeats 4000000 in
set_option maxRecDepth 100000 in
theorem readName_any (s : ByteArray) (p : Nat) (hp : p < s.size) (hs : s.size ≤ 65536) (hl : isLet s[p] = true) (w : World) :
    Calls Tryz.prog 71 #[.string s, .int .i64 p] w fun e w' => e = .returned (wordV p (wordOf s[p] ((bytesOf s).drop (p + 1)))) ∧ Kept [] w w' := by
  obtain ⟨V, hV⟩ : ∃ V, wordV p (wordOf s[p] ((bytesOf s).drop (p + 1))) = V := ⟨_, rfl⟩
  rw [hV]
  rw [wordOf_name hl, ← drop_at s p hp] at hV
  have HE : Hid (∀ w, _) := fun w => endOf_name s p (by omega) hs w
  have hte := tw_le s p isLD (by omega)
  have hpt := piece_tw s p isLD
  obtain ⟨m, hm⟩ : ∃ m, tw isLD ((bytesOf s).drop p) = m := ⟨_, rfl⟩
  rw [hm] at HE hV hte hpt
  have HP : Hid (∀ w, _) := fun w => piece_any s p (p + m) (by omega) hte hs w
  have HS : Hid (s.size ≤ 65536) := hs
  have HV : Hid _ := hV
  have hpb : (p : Int) + (m : Int) ≤ 65536 := by omega
  clear hl hV hs hm
  obtain ⟨t, ht⟩ : ∃ t, s.extract p (p + m) = t := ⟨_, rfl⟩
  have HT : Hid (bytesOf t = ((bytesOf s).drop p).takeWhile isLD) := by show _ = _; rw [← ht, hpt, bytesOf_strL]
  rw [ht] at HP
  clear hpt ht
  by_cases h32 : 32 < m
  · have h32' : (32 : Int) < (m : Int) := by omega
    go_enter Tryz.func71, Tryz.ntmps71
    go_wp2_with (first
      | (go_at_call 95; refine (HE.out _).mono ?_; rintro e w1 ⟨rfl, hw⟩; replace hw := hw.symm; subst hw)
      | (go_at_call 49; refine (mishap_any _ _ _).mono ?_; rintro e w1 ⟨rfl, hkm⟩; have htw := (two_new w).kept hkm; obtain ⟨⟨c0, c1, c2, c3, c4, c5⟩, f0, f1, f2, f3, f4, f5⟩ := htw.facts))
    exact leave_word Tryz.results71 rfl rfl rfl htw.1 htw.2 ((kept_two w []).trans hkm (by simp)) (Nat.le_refl _) (by rw [← HV.out, if_pos h32]; rfl)
  · have h32' : ¬ (32 : Int) < (m : Int) := by omega
    by_cases hkey : bytesOf t ∈ keyNames
    · go_enter Tryz.func71, Tryz.ntmps71
      go_wp2_with (first
        | (go_at_call 95; refine (HE.out _).mono ?_; rintro e w1 ⟨rfl, hw⟩; replace hw := hw.symm; subst hw)
        | (go_at_call 97; refine (HP.out _).mono ?_; rintro e w1 ⟨rfl, hkm⟩; have htw := (two_new w).kept hkm; have n1 : ¬ w.heap.size = w1.heap.size := htw.ne1; have n2 : ¬ w.heap.size + 1 = w1.heap.size := htw.ne2)
        | (go_at_call 98; refine (isKeyName_any _ _).mono ?_; rintro e w2 ⟨rfl, hw⟩; rw [toList_bytes, decide_eq_true hkey]; have htw7 : Two w2 w.heap.size := (by rw [hw]; exact htw.kept (Kept.alloc [] _ _)); have hloc : w2.heap[w1.heap.size]? = some (.cells #[.int .i64 1, .string t, .int .i64 0, .int .i64 p] 104 (0, 0)) := (by rw [hw]; exact heap_alloc_new w1 _); obtain ⟨⟨c0, c1, c2, c3, c4, c5⟩, f0, f1, f2, f3, f4, f5⟩ := htw7.facts; have l0 := cell_blk hloc 0; have l1 := cell_blk hloc 1; have l2 := cell_blk hloc 2; have l3 := cell_blk hloc 3; simp at l0 l1 l2 l3; have lf := free_blk hloc 0; have HK2 : Hid (Kept [] w w2) := (by rw [hw]; exact ((kept_two w []).trans hkm (by simp)).trans (Kept.alloc [] _ _) (by simp)); clear hw))
      have hle : w.heap.size ≤ w1.heap.size := by have := lt_of_block htw.1; omega
      exact leave_word Tryz.results71 rfl rfl rfl ((set_other n1).trans htw7.1) ((set_other n2).trans htw7.2) (HK2.out.trans (Kept.setCell _ _ _) (by simpa using hle)) (Nat.le_refl _) (by
        rw [← HV.out, if_neg h32, ← HT.out, if_pos hkey]; unfold wordV; simp only [strL_bytesOf]; rfl)
    · go_enter Tryz.func71, Tryz.ntmps71
      go_wp2_with (first
        | (go_at_call 95; refine (HE.out _).mono ?_; rintro e w1 ⟨rfl, hw⟩; replace hw := hw.symm; subst hw)
        | (go_at_call 97; refine (HP.out _).mono ?_; rintro e w1 ⟨rfl, hkm⟩; have htw := (two_new w).kept hkm; have n1 : ¬ w.heap.size = w1.heap.size := htw.ne1; have n2 : ¬ w.heap.size + 1 = w1.heap.size := htw.ne2)
        | (go_at_call 98; refine (isKeyName_any _ _).mono ?_; rintro e w2 ⟨rfl, hw⟩; rw [toList_bytes, decide_eq_false hkey]; have htw7 : Two w2 w.heap.size := (by rw [hw]; exact htw.kept (Kept.alloc [] _ _)); have hloc : w2.heap[w1.heap.size]? = some (.cells #[.int .i64 1, .string t, .int .i64 0, .int .i64 p] 104 (0, 0)) := (by rw [hw]; exact heap_alloc_new w1 _); obtain ⟨⟨c0, c1, c2, c3, c4, c5⟩, f0, f1, f2, f3, f4, f5⟩ := htw7.facts; have l0 := cell_blk hloc 0; have l1 := cell_blk hloc 1; have l2 := cell_blk hloc 2; have l3 := cell_blk hloc 3; simp at l0 l1 l2 l3; have lf := free_blk hloc 0; have HK2 : Hid (Kept [] w w2) := (by rw [hw]; exact ((kept_two w []).trans hkm (by simp)).trans (Kept.alloc [] _ _) (by simp)); clear hw))
      exact leave_word Tryz.results71 rfl rfl rfl htw7.1 htw7.2 HK2.out (Nat.le_refl _) (by
        rw [← HV.out, if_neg h32, ← HT.out, if_neg hkey]; unfold wordV; simp only [strL_bytesOf]; rfl)

end Go.Proofs.YthmdgbmodgfcmaaGreatDoor
/-
  What readNumber does.
-/
namespace Go.Proofs.YthmdgbmodgfcmaaGreatDoor
open Go.RowKit

theorem wordOf_num {c : UInt8} {r : List UInt8} (h0 : isLet c = false) (h : isDig c = true) : wordOf c r = if 10 < tw isDig (c :: r) then .error (22, 0) else if letAt ((c :: r).drop (tw isDig (c :: r))) = true then .error (22, 0)
    else if 2147483647 < valD ((c :: r).takeWhile isDig) then .error (22, 0) else .ok (2, (c :: r).takeWhile isDig, valD ((c :: r).takeWhile isDig), tw isDig (c :: r)) := by
  unfold wordOf; rw [if_neg (by simp [h0]), if_pos h]; rfl

theorem takeWhile_all (pred : UInt8 → Bool) (l : List UInt8) : ∀ c ∈ l.takeWhile pred, pred c = true := by
  induction l with
  | nil => simp
  | cons d r ih =>
    by_cases h : pred d = true
    · simpa [h] using ih
    · simp [h]

theorem letAt_at (s : ByteArray) (k : Nat) (h : k < s.size) : letAt ((bytesOf s).drop k) = isLet s[k] := by rw [drop_at s k h]; rfl
theorem letAt_end (s : ByteArray) (k : Nat) (h : s.size ≤ k) : letAt ((bytesOf s).drop k) = false := by
  rw [List.drop_eq_nil_of_le (by rw [bytesOf_length]; exact h)]; rfl

set_option maxHeartbeats 8000000 in
set_option maxRecDepth 100000 in
theorem readNumber_any (s : ByteArray) (p : Nat) (hp : p < s.size) (hs : s.size ≤ 65536) (hn : isLet s[p] = false) (hl : isDig s[p] = true) (w : World) :
    Calls Tryz.prog 73 #[.string s, .int .i64 p] w fun e w' => e = .returned (wordV p (wordOf s[p] ((bytesOf s).drop (p + 1)))) ∧ Kept [] w w' := by
  obtain ⟨V, hV⟩ : ∃ V, wordV p (wordOf s[p] ((bytesOf s).drop (p + 1))) = V := ⟨_, rfl⟩
  rw [hV]
  rw [wordOf_num hn hl, ← drop_at s p hp] at hV
  have HE : Hid (∀ w, _) := fun w => endOf_num s p (by omega) hs w
  have hte := tw_le s p isDig (by omega)
  have hpt := piece_tw s p isDig
  have hall := takeWhile_all isDig ((bytesOf s).drop p)
  have hlen : (((bytesOf s).drop p).takeWhile isDig).length = tw isDig ((bytesOf s).drop p) := rfl
  obtain ⟨m, hm⟩ : ∃ m, tw isDig ((bytesOf s).drop p) = m := ⟨_, rfl⟩
  rw [hm] at HE hV hte hpt hlen
  rw [List.drop_drop] at hV
  have HP : Hid (∀ w, _) := fun w => piece_any s p (p + m) (by omega) hte hs w
  have HS : Hid (s.size ≤ 65536) := hs
  have hpb : (p : Int) + (m : Int) ≤ 65536 := by omega
  have hpc : (p : Int) + (m : Int) ≤ (s.size : Int) := by omega
  have h0 : (0 : Int) ≤ (p : Int) := by omega
  have h1 : (p : Int) ≤ (p : Int) + (m : Int) := by omega
  clear hl hs hm hn
  obtain ⟨t, ht⟩ : ∃ t, s.extract p (p + m) = t := ⟨_, rfl⟩
  have hT : bytesOf t = ((bytesOf s).drop p).takeWhile isDig := by rw [← ht, hpt, bytesOf_strL]
  rw [← hT] at hV hall hlen
  rw [bytesOf_length] at hlen
  have HVal : Hid (m ≤ 10 → ∀ w, _) := fun h10 w => value_any t hall (by omega) w
  obtain ⟨v, hv⟩ : ∃ v, valD (bytesOf t) = v := ⟨_, rfl⟩
  rw [hv] at hV HVal
  have hvb : m ≤ 10 → v < 10000000000 := fun h10 => by
    have h2 := valD_lt _ hall
    rw [hv, bytesOf_length, hlen] at h2
    have h3 : (10 : Nat) ^ m ≤ 10 ^ 10 := Nat.pow_le_pow_right (by decide) h10
    have h4 : (10 : Nat) ^ 10 = 10000000000 := by decide
    omega
  rw [ht] at HP
  have HV : Hid _ := hV
  have HT : Hid (strL (bytesOf t) = t) := strL_bytesOf t
  clear hpt hT hV hall hlen hv
  by_cases h10 : 10 < m
  · have h10' : (10 : Int) < (m : Int) := by omega
    clear hvb
    go_enter Tryz.func73, Tryz.ntmps73
    go_wp2_with (first
      | (go_at_call 95; refine (HE.out _).mono ?_; rintro e w1 ⟨rfl, hw⟩; replace hw := hw.symm; subst hw)
      | (go_at_call 49; refine (mishap_any _ _ _).mono ?_; rintro e w1 ⟨rfl, hkm⟩; have htw := (two_new w).kept hkm; obtain ⟨⟨c0, c1, c2, c3, c4, c5⟩, f0, f1, f2, f3, f4, f5⟩ := htw.facts))
    exact leave_word Tryz.results73 rfl rfl rfl htw.1 htw.2 ((kept_two w []).trans hkm (by simp)) (Nat.le_refl _) (by rw [← HV.out, if_pos h10]; rfl)
  · have h10' : ¬ (10 : Int) < (m : Int) := by omega
    have hVal := HVal.out (by omega)
    have HVb : Hid _ := hvb (by omega)
    have HVL : Hid (∀ w, _) := hVal
    clear hvb HVal hVal
    by_cases hend : p + m < s.size
    · have hend' : (p : Int) + (m : Int) < (s.size : Int) := by omega
      cases hlt : isLet s[p + m] with
      | true =>
        have HL : Hid _ := hlt
        clear hlt
        go_enter Tryz.func73, Tryz.ntmps73
        go_wp2_with (first
          | (go_at_call 95; refine (HE.out _).mono ?_; rintro e w1 ⟨rfl, hw⟩; replace hw := hw.symm; subst hw)
          | (go_at_call 70; refine (isLetter_any _ _).mono ?_; rintro e w1 ⟨rfl, hw⟩; replace hw := hw.symm; subst hw; rw [HL.out])
          | (go_at_call 49; refine (mishap_any _ _ _).mono ?_; rintro e w1 ⟨rfl, hkm⟩; have htw := (two_new w).kept hkm; obtain ⟨⟨c0, c1, c2, c3, c4, c5⟩, f0, f1, f2, f3, f4, f5⟩ := htw.facts))
        exact leave_word Tryz.results73 rfl rfl rfl htw.1 htw.2 ((kept_two w []).trans hkm (by simp)) (Nat.le_refl _) (by rw [← HV.out, if_neg h10, if_pos (by rw [letAt_at s _ hend]; exact HL.out)]; rfl)
      | false =>
        have HL : Hid _ := hlt
        clear hlt
        by_cases hbig : 2147483647 < v
        · have hbig' : decide ((2147483647 : Int) < (v : Int)) = true := by simp; omega
          have HBig : Hid _ := hbig
          clear hbig
          go_enter Tryz.func73, Tryz.ntmps73
          go_wp2_with (first
            | (go_at_call 95; refine (HE.out _).mono ?_; rintro e w1 ⟨rfl, hw⟩; replace hw := hw.symm; subst hw)
            | (go_at_call 70; refine (isLetter_any _ _).mono ?_; rintro e w1 ⟨rfl, hw⟩; replace hw := hw.symm; subst hw; rw [HL.out])
            | (go_at_call 99; refine (HVL.out _).mono ?_; rintro e w1 ⟨rfl, hw⟩; replace hw := hw.symm; subst hw)
            | (go_at_call 97; refine (HP.out _).mono ?_; rintro e w1 ⟨rfl, hkm⟩; have htw := (two_new w).kept hkm; obtain ⟨⟨c0, c1, c2, c3, c4, c5⟩, f0, f1, f2, f3, f4, f5⟩ := htw.facts)
            | (go_at_call 49; refine (mishap_any _ _ _).mono ?_; rintro e w1 ⟨rfl, hkm⟩; have htw := (two_new w).kept hkm; obtain ⟨⟨c0, c1, c2, c3, c4, c5⟩, f0, f1, f2, f3, f4, f5⟩ := htw.facts))
          exact leave_word Tryz.results73 rfl rfl rfl htw.1 htw.2 ((kept_two w []).trans hkm (by simp)) (Nat.le_refl _) (by rw [← HV.out, if_neg h10, if_neg (by rw [letAt_at s _ hend, HL.out]; simp), if_pos HBig.out]; rfl)
        · have hbig' : decide ((2147483647 : Int) < (v : Int)) = false := by simp; omega
          have HBig : Hid _ := hbig
          clear hbig
          go_enter Tryz.func73, Tryz.ntmps73
          go_wp2_with (first
            | (go_at_call 95; refine (HE.out _).mono ?_; rintro e w1 ⟨rfl, hw⟩; replace hw := hw.symm; subst hw)
            | (go_at_call 70; refine (isLetter_any _ _).mono ?_; rintro e w1 ⟨rfl, hw⟩; replace hw := hw.symm; subst hw; rw [HL.out])
            | (go_at_call 99; refine (HVL.out _).mono ?_; rintro e w1 ⟨rfl, hw⟩; replace hw := hw.symm; subst hw)
            | (go_at_call 97; refine (HP.out _).mono ?_; rintro e w1 ⟨rfl, hkm⟩; have htw := (two_new w).kept hkm; obtain ⟨⟨c0, c1, c2, c3, c4, c5⟩, f0, f1, f2, f3, f4, f5⟩ := htw.facts)
            | (go_at_call 49; refine (mishap_any _ _ _).mono ?_; rintro e w1 ⟨rfl, hkm⟩; have htw := (two_new w).kept hkm; obtain ⟨⟨c0, c1, c2, c3, c4, c5⟩, f0, f1, f2, f3, f4, f5⟩ := htw.facts))
          exact leave_word Tryz.results73 rfl rfl rfl htw.1 htw.2 ((kept_two w []).trans hkm (by simp)) (Nat.le_refl _) (by rw [← HV.out, if_neg h10, if_neg (by rw [letAt_at s _ hend, HL.out]; simp), if_neg HBig.out]; unfold wordV; simp only [HT.out]; rfl)
    · have hend' : ¬ (p : Int) + (m : Int) < (s.size : Int) := by omega
      by_cases hbig : 2147483647 < v
      · have hbig' : decide ((2147483647 : Int) < (v : Int)) = true := by simp; omega
        have HBig : Hid _ := hbig
        clear hbig
        go_enter Tryz.func73, Tryz.ntmps73
        go_wp2_with (first
          | (go_at_call 95; refine (HE.out _).mono ?_; rintro e w1 ⟨rfl, hw⟩; replace hw := hw.symm; subst hw)
          | (go_at_call 99; refine (HVL.out _).mono ?_; rintro e w1 ⟨rfl, hw⟩; replace hw := hw.symm; subst hw)
          | (go_at_call 97; refine (HP.out _).mono ?_; rintro e w1 ⟨rfl, hkm⟩; have htw := (two_new w).kept hkm; obtain ⟨⟨c0, c1, c2, c3, c4, c5⟩, f0, f1, f2, f3, f4, f5⟩ := htw.facts)
          | (go_at_call 49; refine (mishap_any _ _ _).mono ?_; rintro e w1 ⟨rfl, hkm⟩; have htw := (two_new w).kept hkm; obtain ⟨⟨c0, c1, c2, c3, c4, c5⟩, f0, f1, f2, f3, f4, f5⟩ := htw.facts))
        exact leave_word Tryz.results73 rfl rfl rfl htw.1 htw.2 ((kept_two w []).trans hkm (by simp)) (Nat.le_refl _) (by rw [← HV.out, if_neg h10, if_neg (by rw [letAt_end s _ (by omega)]; simp), if_pos HBig.out]; rfl)
      · have hbig' : decide ((2147483647 : Int) < (v : Int)) = false := by simp; omega
        have HBig : Hid _ := hbig
        clear hbig
        go_enter Tryz.func73, Tryz.ntmps73
        go_wp2_with (first
          | (go_at_call 95; refine (HE.out _).mono ?_; rintro e w1 ⟨rfl, hw⟩; replace hw := hw.symm; subst hw)
          | (go_at_call 99; refine (HVL.out _).mono ?_; rintro e w1 ⟨rfl, hw⟩; replace hw := hw.symm; subst hw)
          | (go_at_call 97; refine (HP.out _).mono ?_; rintro e w1 ⟨rfl, hkm⟩; have htw := (two_new w).kept hkm; obtain ⟨⟨c0, c1, c2, c3, c4, c5⟩, f0, f1, f2, f3, f4, f5⟩ := htw.facts)
          | (go_at_call 49; refine (mishap_any _ _ _).mono ?_; rintro e w1 ⟨rfl, hkm⟩; have htw := (two_new w).kept hkm; obtain ⟨⟨c0, c1, c2, c3, c4, c5⟩, f0, f1, f2, f3, f4, f5⟩ := htw.facts))
        exact leave_word Tryz.results73 rfl rfl rfl htw.1 htw.2 ((kept_two w []).trans hkm (by simp)) (Nat.le_refl _) (by rw [← HV.out, if_neg h10, if_neg (by rw [letAt_end s _ (by omega)]; simp), if_neg HBig.out]; unfold wordV; simp only [HT.out]; rfl)

end Go.Proofs.YthmdgbmodgfcmaaGreatDoor
/-
  What readSign does.
-/
namespace Go.Proofs.YthmdgbmodgfcmaaGreatDoor
open Go.RowKit

theorem wordOf_sign {c : UInt8} {r : List UInt8} (h0 : isLet c = false) (h1 : isDig c = false) (h2 : (c == 34) = false) :
    wordOf c r = if pairAt c r = true then .ok (4, (c :: r).take 2, 0, 2) else if [c] ∈ signs then .ok (4, [c], 0, 1) else .error (20, 0) := by
  unfold wordOf; rw [if_neg (by simp [h0]), if_neg (by simp [h1]), if_neg (by simp [h2])]

theorem bytes_two (s : ByteArray) (p : Nat) (h : p + 1 < s.size) : bytesOf (s.extract p (p + 2)) = [s[p], s[p + 1]] := by
  rw [bytes_extract, List.drop_take, drop_at s p (by omega), drop_at s (p + 1) h]
  simp

theorem bytes_one (s : ByteArray) (p : Nat) (h : p < s.size) : bytesOf (s.extract p (p + 1)) = [s[p]] := by
  rw [bytes_extract, List.drop_take, drop_at s p h]
  simp

set_option maxHeartbeats 8000000 in
set_option maxRecDepth 100000 in
theorem readSign_any (s : ByteArray) (p : Nat) (hp : p < s.size) (hs : s.size ≤ 65536) (hn : isLet s[p] = false) (hl : isDig s[p] = false) (hq : (s[p] == 34) = false) (w : World) :
    Calls Tryz.prog 75 #[.string s, .int .i64 p] w fun e w' => e = .returned (wordV p (wordOf s[p] ((bytesOf s).drop (p + 1)))) ∧ Kept [] w w' := by
  obtain ⟨V, hV⟩ : ∃ V, wordV p (wordOf s[p] ((bytesOf s).drop (p + 1))) = V := ⟨_, rfl⟩
  rw [hV]
  rw [wordOf_sign hn hl hq] at hV
  have HP1 : Hid (∀ w, _) := fun w => piece_any s p (p + 1) (by omega) (by omega) hs w
  have HS1 : Hid (∀ w, _) := fun w => isSign_any (s.extract p (p + 1)) w
  have hb1 := bytes_one s p hp
  rw [toList_bytes, hb1] at HS1
  have hpb : (p : Int) ≤ 65535 := by omega
  have h0 : (0 : Int) ≤ (p : Int) := by omega
  have hpl : (p : Int) < (s.size : Int) := by omega
  have ht1 : s.extract p (p + 1) = strL [s[p]] := by rw [← strL_bytesOf (s.extract p (p + 1)), hb1]
  have H1 : Hid _ := ht1
  clear hn hl hq hb1 ht1
  by_cases hnext : p + 1 < s.size
  · have hnext' : (p : Int) + 1 < (s.size : Int) := by omega
    have HP2 : Hid (∀ w, _) := fun w => piece_any s p (p + 2) (by omega) (by omega) hs w
    have HS2 : Hid (∀ w, _) := fun w => isPair_any (s.extract p (p + 2)) w
    have hb2 := bytes_two s p hnext
    rw [toList_bytes, hb2] at HS2
    have hpa : pairAt s[p] ((bytesOf s).drop (p + 1)) = decide ([s[p], s[p + 1]] ∈ pairs) := by rw [drop_at s (p + 1) hnext]; rfl
    have ht2 : s.extract p (p + 2) = strL ((s[p] :: (bytesOf s).drop (p + 1)).take 2) := by rw [← strL_bytesOf (s.extract p (p + 2)), hb2, drop_at s (p + 1) hnext]; rfl
    rw [hpa] at hV
    have H2 : Hid _ := ht2
    have HV : Hid _ := hV
    clear hV hb2 hpa ht2 hs
    by_cases hpair : [s[p], s[p + 1]] ∈ pairs
    · go_enter Tryz.func75, Tryz.ntmps75
      go_wp2_with (first
        | (go_at_call 101; refine (HS2.out _).mono ?_; rintro e w1 ⟨rfl, hw⟩; replace hw := hw.symm; subst hw; rw [decide_eq_true hpair])
        | (go_at_call 97; refine (HP2.out _).mono ?_; rintro e w1 ⟨rfl, hkm⟩; have htw := (two_new w).kept hkm; obtain ⟨⟨c0, c1, c2, c3, c4, c5⟩, f0, f1, f2, f3, f4, f5⟩ := htw.facts))
      exact leave_word Tryz.results75 rfl rfl rfl htw.1 htw.2 ((kept_two w []).trans hkm (by simp)) (Nat.le_refl _) (by rw [← HV.out, if_pos (decide_eq_true hpair)]; unfold wordV; simp only [← H2.out]; rfl)
    · by_cases hsign : [s[p]] ∈ signs
      · go_enter Tryz.func75, Tryz.ntmps75
        go_wp2_with (first
          | (go_at_call 101; refine (HS2.out _).mono ?_; rintro e w1 ⟨rfl, hw⟩; replace hw := hw.symm; subst hw; rw [decide_eq_false hpair])
          | (go_at_call 102; refine (HS1.out _).mono ?_; rintro e w1 ⟨rfl, hw⟩; replace hw := hw.symm; subst hw; rw [decide_eq_true hsign])
          | (go_at_call 97; refine (HP1.out _).mono ?_; rintro e w1 ⟨rfl, hkm⟩; have htw := (two_new w).kept hkm; obtain ⟨⟨c0, c1, c2, c3, c4, c5⟩, f0, f1, f2, f3, f4, f5⟩ := htw.facts))
        exact leave_word Tryz.results75 rfl rfl rfl htw.1 htw.2 ((kept_two w []).trans hkm (by simp)) (Nat.le_refl _) (by rw [← HV.out, if_neg (by simpa using hpair), if_pos hsign]; unfold wordV; simp only [← H1.out]; rfl)
      · go_enter Tryz.func75, Tryz.ntmps75
        go_wp2_with (first
          | (go_at_call 101; refine (HS2.out _).mono ?_; rintro e w1 ⟨rfl, hw⟩; replace hw := hw.symm; subst hw; rw [decide_eq_false hpair])
          | (go_at_call 102; refine (HS1.out _).mono ?_; rintro e w1 ⟨rfl, hw⟩; replace hw := hw.symm; subst hw; rw [decide_eq_false hsign])
          | (go_at_call 49; refine (mishap_any _ _ _).mono ?_; rintro e w1 ⟨rfl, hkm⟩; have htw := (two_new w).kept hkm; obtain ⟨⟨c0, c1, c2, c3, c4, c5⟩, f0, f1, f2, f3, f4, f5⟩ := htw.facts))
        exact leave_word Tryz.results75 rfl rfl rfl htw.1 htw.2 ((kept_two w []).trans hkm (by simp)) (Nat.le_refl _) (by rw [← HV.out, if_neg (by simpa using hpair), if_neg hsign]; rfl)
  · have hnext' : ¬ (p : Int) + 1 < (s.size : Int) := by omega
    have hpa : pairAt s[p] ((bytesOf s).drop (p + 1)) = false := by rw [List.drop_eq_nil_of_le (by rw [bytesOf_length]; omega)]; rfl
    rw [hpa] at hV
    have HV : Hid _ := hV
    clear hV hpa hs
    by_cases hsign : [s[p]] ∈ signs
    · go_enter Tryz.func75, Tryz.ntmps75
      go_wp2_with (first
        | (go_at_call 102; refine (HS1.out _).mono ?_; rintro e w1 ⟨rfl, hw⟩; replace hw := hw.symm; subst hw; rw [decide_eq_true hsign])
        | (go_at_call 97; refine (HP1.out _).mono ?_; rintro e w1 ⟨rfl, hkm⟩; have htw := (two_new w).kept hkm; obtain ⟨⟨c0, c1, c2, c3, c4, c5⟩, f0, f1, f2, f3, f4, f5⟩ := htw.facts))
      exact leave_word Tryz.results75 rfl rfl rfl htw.1 htw.2 ((kept_two w []).trans hkm (by simp)) (Nat.le_refl _) (by rw [← HV.out, if_neg (by simp), if_pos hsign]; unfold wordV; simp only [← H1.out]; rfl)
    · go_enter Tryz.func75, Tryz.ntmps75
      go_wp2_with (first
        | (go_at_call 102; refine (HS1.out _).mono ?_; rintro e w1 ⟨rfl, hw⟩; replace hw := hw.symm; subst hw; rw [decide_eq_false hsign])
        | (go_at_call 49; refine (mishap_any _ _ _).mono ?_; rintro e w1 ⟨rfl, hkm⟩; have htw := (two_new w).kept hkm; obtain ⟨⟨c0, c1, c2, c3, c4, c5⟩, f0, f1, f2, f3, f4, f5⟩ := htw.facts))
      exact leave_word Tryz.results75 rfl rfl rfl htw.1 htw.2 ((kept_two w []).trans hkm (by simp)) (Nat.le_refl _) (by rw [← HV.out, if_neg (by simp), if_neg hsign]; rfl)

end Go.Proofs.YthmdgbmodgfcmaaGreatDoor
