/-
  LQuoted, LReadQ, LReadWord, LToks.
-/
import Derived.Deep.AppendLies
import Derived.OwnWalk
import Derived.Test.YthmdgbmodgfcmaaGreatDoorM36
import Derived.Test.YthmdgbmodgfcmaaGreatDoorM39
import Derived.Test.YthmdgbmodgfcmaaGreatDoorM40
/-
  What unescape and readQuoted do.
-/
namespace Go.Proofs.YthmdgbmodgfcmaaGreatDoor
open Go.RowKit

theorem infoU8 : (Tryz.prog.info? 5).map (fun i => (i.zero, i.size, i.bytes)) = some (some (.int .u8 0), 1, 1) := by kernel_rfl

theorem ret_ub {a b : Int} {x y : Bool} (h : a = b) (h2 : x = y) : Ending.returned (.tuple #[.int .u8 a, .bool x]) = .returned (.tuple #[.int .u8 b, .bool y]) := by rw [h, h2]

set_option maxHeartbeats 2000000 in
theorem unescape_end (s : ByteArray) (w : World) :
    Calls Tryz.prog 100 #[.string s, .int .i64 (s.size : Int)] w fun e w' => e = .returned (.tuple #[.int .u8 0, .bool false]) ∧ w' = w := by
  go_enter Tryz.func100, Tryz.ntmps100
  go_wp2
  go_ret2
  exact ⟨rfl, rfl⟩

theorem unesc_int (c : UInt8) : unesc c = if (c.toNat : Int) = 110 then some 10 else if (c.toNat : Int) = 116 then some 9 else if (c.toNat : Int) = 92 ∨ (c.toNat : Int) = 34 then some c else none := by
  have e : ∀ d : UInt8, (c == d) = true ↔ (c.toNat : Int) = (d.toNat : Int) := fun d => by rw [u8_beq]; simp
  unfold unesc
  simp only [Bool.or_eq_true, e]
  rfl

set_option maxHeartbeats 2000000 in
theorem unescape_any (s : ByteArray) (k : Nat) (hk : k < s.size) (w : World) :
    Calls Tryz.prog 100 #[.string s, .int .i64 (k : Int)] w fun e w' => e = .returned (.tuple #[.int .u8 (((unesc s[k]).getD 0).toNat : Int), .bool (unesc s[k]).isSome]) ∧ w' = w := by
  have h1 : ((k : Int) == (s.size : Int)) = false := by simp; omega
  have h2 : (k : Int) < (s.size : Int) := by omega
  have HU : Hid _ := unesc_int s[k]
  by_cases a : (s[k].toNat : Int) = 110
  · go_enter Tryz.func100, Tryz.ntmps100
    go_wp2
    go_ret2
    exact ⟨by rw [HU.out, if_pos a]; rfl, rfl⟩
  · by_cases b : (s[k].toNat : Int) = 116
    · go_enter Tryz.func100, Tryz.ntmps100
      go_wp2
      go_ret2
      exact ⟨by rw [HU.out, if_neg a, if_pos b]; rfl, rfl⟩
    · by_cases c : (s[k].toNat : Int) = 92
      · go_enter Tryz.func100, Tryz.ntmps100
        go_wp2
        go_ret2
        exact ⟨by rw [HU.out, if_neg a, if_neg b, if_pos (.inl c)]; exact ret_ub c.symm rfl, rfl⟩
      · by_cases d : (s[k].toNat : Int) = 34
        · go_enter Tryz.func100, Tryz.ntmps100
          go_wp2
          go_ret2
          exact ⟨by rw [HU.out, if_neg a, if_neg b, if_pos (.inr d)]; exact ret_ub d.symm rfl, rfl⟩
        · go_enter Tryz.func100, Tryz.ntmps100
          go_wp2
          go_ret2
          exact ⟨by rw [HU.out, if_neg a, if_neg b, if_neg (by simp [c, d])]; rfl, rfl⟩

/-- What is read behind what has been read. -/
def qsh (acc : List UInt8) (d : Nat) : Except Mis (List UInt8 × Nat) → Except Mis (List UInt8 × Nat)
  | .error (e, k) => .error (e, k + d)
  | .ok (bs, n) => .ok (acc ++ bs, n + d)

theorem qsh_zero (x : Except Mis (List UInt8 × Nat)) : qsh [] 0 x = x := by
  cases x with
  | error e => rfl
  | ok y => rfl

theorem quo_nil : quo [] = .error (21, 0) := rfl
theorem quo_end (r : List UInt8) : quo (34 :: r) = .ok ([], 1) := by rw [quo.eq_def]; simp
theorem quo_bad {c : UInt8} {r : List UInt8} (h : (c == 34) = false) (hb : (decide (c < 32) || decide (126 < c)) = true) : quo (c :: r) = .error (22, 0) := by
  rw [quo.eq_def]; simp only [h, hb]; simp
theorem quo_plain {c : UInt8} {r : List UInt8} (acc : List UInt8) (d : Nat) (h : (c == 34) = false) (hb : (decide (c < 32) || decide (126 < c)) = false) (h92 : (c == 92) = false) : qsh acc d (quo (c :: r)) = qsh (acc ++ [c]) (d + 1) (quo r) := by
  rw [quo.eq_def]
  simp only [h, hb, h92]
  simp only [Bool.false_eq_true, if_false]
  cases quo r with
  | error e => obtain ⟨e, k⟩ := e; simp [qsh]; omega
  | ok y => obtain ⟨bs, n⟩ := y; simp [qsh]; omega
theorem quo_esc_nil : quo [92] = .error (22, 0) := by rw [quo.eq_def]; simp
theorem quo_esc_bad {c : UInt8} {r : List UInt8} (h : unesc c = none) : quo (92 :: c :: r) = .error (22, 0) := by rw [quo.eq_def]; simp [h]
theorem quo_esc {c b : UInt8} {r : List UInt8} (acc : List UInt8) (d : Nat) (h : unesc c = some b) : qsh acc d (quo (92 :: c :: r)) = qsh (acc ++ [b]) (d + 2) (quo r) := by
  rw [quo.eq_def]
  simp [h]
  cases quo r with
  | error e => obtain ⟨e, k⟩ := e; simp [qsh]; omega
  | ok y => obtain ⟨bs, n⟩ := y; simp [qsh]; omega

/-- What readQuoted hands back. -/
def quoW (q : Except Mis (List UInt8 × Nat)) : Except Mis (Nat × List UInt8 × Nat × Nat) := match q with
  | .error (e, k) => .error (e, k + 1)
  | .ok (bs, n) => .ok (3, bs, 0, n + 1)

theorem wordOf_quoted {r : List UInt8} : wordOf 34 r = quoW (quo r) := by
  unfold wordOf
  rw [if_neg (by decide), if_neg (by decide), if_pos (by decide)]
  rfl

end Go.Proofs.YthmdgbmodgfcmaaGreatDoor
/-
  What readQuoted does.
-/
namespace Go.Proofs.YthmdgbmodgfcmaaGreatDoor
open Go.RowKit

theorem row_form {W : World} {base : Nat} {e : TypeId} {size : Nat} {v : Value} {n : Nat} {xs : List Value} (h : W.ownsRow base e size v n xs) : ∃ ao cap, v = .slice ao n cap := by
  rcases h.2 with ⟨rfl, h0⟩ | ⟨g, cap, cur, rfl, _⟩
  · exact ⟨none, 0, by rw [h0]⟩
  · exact ⟨_, _, rfl⟩

theorem row_base {W : World} {base : Nat} {e : TypeId} {size : Nat} {v : Value} {n : Nat} {xs : List Value} (h : W.ownsRow base e size v n xs) : ∀ k, v.ownBlock = some k → base ≤ k := by
  intro k hk
  rcases h.2 with ⟨rfl, _⟩ | ⟨g, cap, cur, rfl, hb, _⟩
  · simp [Value.ownBlock] at hk
  · simp [Value.ownBlock] at hk; omega

/-- In the midst of a quoted text. -/
structure MidQ (s : ByteArray) (p : Nat) (w wr : World) (sv : Value) (i : Nat) (acc : List UInt8) : Prop where
  row : wr.ownsRow (w.heap.size + 2) 5 1 sv acc.length (cellsOf acc)
  len : acc.length ≤ i
  lo : p + 1 ≤ i
  hi : i ≤ s.size
  two : Two wr w.heap.size
  bel : Below (w.heap.size + 2) ((w.alloc (.cells #[.int .i64 0, .string ⟨#[]⟩, .int .i64 0, .int .i64 0] 104)).alloc (.cells #[.int .i64 0, .int .i64 0] 26)) wr
  val : quo ((bytesOf s).drop (p + 1)) = qsh acc (i - (p + 1)) (quo ((bytesOf s).drop i))

theorem MidQ.kept {s : ByteArray} {p : Nat} {w wr : World} {sv : Value} {i : Nat} {acc : List UInt8} (h : MidQ s p w wr sv i acc) : Kept [] w wr :=
  (kept_two w []).trans (Kept.of_below (by have := h.bel; simpa using this)) (by simp)

theorem Kept.mono_size {w wr : World} (h : Below w.heap.size w wr) : Kept [] w wr := Kept.of_below h

/-- Behind an append. -/
theorem MidQ.push {s : ByteArray} {p : Nat} {w wr w1 : World} {sv v' : Value} {i j : Nat} {acc : List UInt8} {b : UInt8} (h : MidQ s p w wr sv i acc)
    (hrow : w1.ownsRow (w.heap.size + 2) 5 1 v' (acc.length + 1) (cellsOf acc ++ [.int .u8 (b.toNat : Int)])) (hg : (wr.alloc (.cells #[.int .u8 (b.toNat : Int)] 5)).grownBy w1 sv.ownBlock)
    (hij : i + 1 ≤ j) (hj : j ≤ s.size) (hv : quo ((bytesOf s).drop (p + 1)) = qsh (acc ++ [b]) (j - (p + 1)) (quo ((bytesOf s).drop j))) : MidQ s p w w1 v' j (acc ++ [b]) := by
  have hl := h.len
  have h0 := h.lo
  have hb := h.bel
  have hsz := hb.size
  simp at hsz
  have hb1 : Below (w.heap.size + 2) wr w1 := ((Below.refl _ wr).alloc (by omega) _).grown hg (by simp; omega) (row_base h.row)
  refine ⟨by simpa [cellsOf] using hrow, by simp; omega, by omega, hj, ?_, hb.trans hb1, hv⟩
  exact ⟨(hb1.block _ (by omega)).trans h.two.1, (hb1.block _ (by omega)).trans h.two.2⟩

theorem quote_V {p i : Nat} (acc : List UInt8) (h : p + 1 ≤ i) : wordV p (quoW (qsh acc (i - (p + 1)) (.ok ([], 1)))) = .tuple #[.agg #[.int .i64 3, .string ⟨acc.toArray⟩, .int .i64 0, .int .i64 (p : Int)], .int .i64 ((i : Int) + 1), .agg #[.int .i64 0, .int .i64 0]] := by
  unfold qsh quoW wordV strL
  simp only [List.append_nil]
  rw [show ((p + (1 + (i - (p + 1)) + 1) : Nat) : Int) = (i : Int) + 1 by omega]
  rfl

theorem err_V {p i e : Nat} (acc : List UInt8) (h : p + 1 ≤ i) : wordV p (quoW (qsh acc (i - (p + 1)) (.error (e, 0)))) = .tuple #[.agg #[.int .i64 0, .string ⟨#[]⟩, .int .i64 0, .int .i64 0], .int .i64 0, .agg #[.int .i64 (e : Int), .int .i64 (i : Int)]] := by
  unfold qsh quoW wordV
  simp only
  rw [show ((p + (0 + (i - (p + 1)) + 1) : Nat) : Int) = (i : Int) by omega]

theorem shown_int (c : UInt8) : (decide (c < 32) || decide (126 < c)) = (decide ((c.toNat : Int) < 32) || decide (126 < (c.toNat : Int))) := by
  rw [Bool.eq_iff_iff]
  simp [UInt8.lt_iff_toNat_lt]
  omega

set_option maxHeartbeats 8000000 in
set_option maxRecDepth 100000 in
theorem readQuoted_any (s : ByteArray) (p : Nat) (hp : p < s.size) (hs : s.size ≤ 65536) (hq : s[p] = 34) (w : World) :
    Calls Tryz.prog 74 #[.string s, .int .i64 p] w fun e w' => e = .returned (wordV p (wordOf s[p] ((bytesOf s).drop (p + 1)))) ∧ Kept [] w w' := by
  obtain ⟨V, hV⟩ : ∃ V, wordV p (wordOf s[p] ((bytesOf s).drop (p + 1))) = V := ⟨_, rfl⟩
  rw [hV]
  rw [hq, wordOf_quoted] at hV
  obtain ⟨i0, hi, hz0, hz1, hz2⟩ := info_parts infoU8
  have HS : Hid (s.size ≤ 65536) := hs
  have HV : Hid _ := hV
  have hpb : (p : Int) ≤ 65535 := by omega
  clear hV hs hq
  go_enter Tryz.func74, Tryz.ntmps74
  go_wp2
  go_loopw [7, 8] (fun sv iv wr => ∃ (i : Nat) (acc : List UInt8), iv = .int .i64 (i : Int) ∧ MidQ s p w wr sv i acc)
    (fun _ iv _ => s.size - (intOf iv).toNat)
  case atStart => exact ⟨p + 1, [], by go_num, World.ownsRow_nil _ _ _ _, by simp, Nat.le_refl _, hp, two_new w, Below.refl _ _, by rw [show p + 1 - (p + 1) = 0 by omega, qsh_zero]⟩
  case round =>
    obtain ⟨i, acc, rfl, hM⟩ := hrel
    have hlo := hM.lo
    have hhi := hM.hi
    have hrow := hM.row
    have HL : Hid _ := hM.len
    have HM : Hid _ := hM
    have HB : Hid _ := hM.bel.size
    have htw := hM.two
    obtain ⟨ao, cap, rfl⟩ := row_form hrow
    have hib : (i : Int) ≤ 65536 := by have := HS.out; omega
    clear hM
    by_cases hlt : i < s.size
    · have hlt' : (i : Int) < (s.size : Int) := by omega
      have HD : Hid _ := drop_at s i hlt
      by_cases h34 : s[i] = 34
      · have hx : s[i].toNat = 34 := by rw [h34]; rfl
        have hcv := run_string_of_row (P := Tryz.prog) wr 116 9 5 Tryz.underlying116 Tryz.underlying5 Tryz.underlying9 hrow
        obtain ⟨⟨c0, c1, c2, c3, c4, c5⟩, f0, f1, f2, f3, f4, f5⟩ := htw.facts
        go_wp2
        exact leave_word Tryz.results74 rfl rfl rfl htw.1 htw.2 HM.out.kept (Nat.le_refl _) (by rw [← HV.out, HM.out.val, HD.out, h34, quo_end, quote_V acc hlo]; rfl)
      · have hx : ¬ s[i].toNat = 34 := fun e => h34 (UInt8.toNat_inj.1 e)
        have H34 : Hid ((s[i] == 34) = false) := by show _ = _; simpa using h34
        clear h34
        by_cases hbad : (s[i].toNat : Int) < 32 ∨ 126 < (s[i].toNat : Int)
        · have HBad : Hid ((decide (s[i] < 32) || decide (126 < s[i])) = true) := by show _ = _; rw [shown_int]; simpa using hbad
          rcases hbad with hbad | hbad
          all_goals
            go_wp2_with (first | (go_at_call 49; refine (mishap_any _ _ _).mono ?_; rintro e w1 ⟨rfl, hkm⟩; have htw1 := htw.kept hkm; obtain ⟨⟨c0, c1, c2, c3, c4, c5⟩, f0, f1, f2, f3, f4, f5⟩ := htw1.facts))
            exact leave_word Tryz.results74 rfl rfl rfl htw1.1 htw1.2 (HM.out.kept.trans hkm (by simp)) (Nat.le_refl _) (by rw [← HV.out, HM.out.val, HD.out, quo_bad H34.out HBad.out, err_V acc hlo]; rfl)
        · have HOk : Hid ((decide (s[i] < 32) || decide (126 < s[i])) = false) := by show _ = _; rw [shown_int]; simp; omega
          have hb1 : ¬ (s[i].toNat : Int) < 32 := by omega
          have hb2 : ¬ 126 < (s[i].toNat : Int) := by omega
          clear hbad
          by_cases h92 : s[i] = 92
          · have hx2 : s[i].toNat = 92 := by rw [h92]; rfl
            have hx3 : ((92 : Int) < 32) = False := by decide
            by_cases hend : i + 1 < s.size
            · have hend' : (i : Int) + 1 < (s.size : Int) := by omega
              have HD2 : Hid _ := drop_at s (i + 1) hend
              have HU : Hid (∀ w, _) := fun w => unescape_any s (i + 1) hend w
              cases hu : unesc s[i + 1] with
              | none =>
                rw [hu] at HU
                have HN : Hid _ := hu
                clear hu hb1 hb2
                go_wp2_with (first
                  | (go_at_call 100; refine (HU.out _).mono ?_; rintro e w1 ⟨rfl, hw⟩; replace hw := hw.symm; subst hw)
                  | (go_at_call 49; refine (mishap_any _ _ _).mono ?_; rintro e w1 ⟨rfl, hkm⟩; have htw1 := htw.kept hkm; obtain ⟨⟨c0, c1, c2, c3, c4, c5⟩, f0, f1, f2, f3, f4, f5⟩ := htw1.facts))
                exact leave_word Tryz.results74 rfl rfl rfl htw1.1 htw1.2 (HM.out.kept.trans hkm (by simp)) (Nat.le_refl _) (by rw [← HV.out, HM.out.val, HD.out, HD2.out, h92, quo_esc_bad HN.out, err_V acc hlo]; rfl)
              | some b =>
                rw [hu] at HU
                have HN : Hid _ := hu
                clear hu hb1 hb2
                go_wp2_with (first
                  | (go_at_call 100; refine (HU.out _).mono ?_; rintro e w1 ⟨rfl, hw⟩; replace hw := hw.symm; subst hw)
                  | (at_builtin; refine wpList_append_lies _ rfl _ _ _ rfl (w.heap.size + 2) 5 i0 (.int .u8 0) 1 1 Tryz.underlying116 hi hz0 hz1 hz2 rfl (by omega) _ _ _ rfl (hrow.alloc _) ⟨wr.heap.size, 0, none⟩ 1 1 [.int .u8 (b.toNat : Int)] rfl rfl (World.news_of_block (heap_alloc_new wr _)) (by simp [Value.oneCell']) (by omega) (by have := HS.out; have := HL.out; unfold maxLen; omega) (by have := HS.out; have := HL.out; omega) (by have := HB.out; simp at this ⊢; omega) (wr.heap.size + 1) (by simp) ?_; intro g cap' w1 hown hgrow hat hg))
                go_roundw
                case rel => exact ⟨i + 2, acc ++ [b], by go_num, HM.out.push hown hgrow (by omega) (by omega) (by rw [HM.out.val, HD.out, HD2.out, h92, quo_esc acc _ HN.out, show i + 2 - (p + 1) = i - (p + 1) + 2 by omega])⟩
                case measure => simp [intOf]; omega
            · have hie : i + 1 = s.size := by omega
              have hie' : (i : Int) + 1 = (s.size : Int) := by omega
              have HU : Hid (∀ w, _) := fun w => unescape_end s w
              clear hb1 hb2
              go_wp2_with (first
                | (go_at_call 100; refine (HU.out _).mono ?_; rintro e w1 ⟨rfl, hw⟩; replace hw := hw.symm; subst hw)
                | (go_at_call 49; refine (mishap_any _ _ _).mono ?_; rintro e w1 ⟨rfl, hkm⟩; have htw1 := htw.kept hkm; obtain ⟨⟨c0, c1, c2, c3, c4, c5⟩, f0, f1, f2, f3, f4, f5⟩ := htw1.facts))
              exact leave_word Tryz.results74 rfl rfl rfl htw1.1 htw1.2 (HM.out.kept.trans hkm (by simp)) (Nat.le_refl _) (by rw [← HV.out, HM.out.val, HD.out, h92, List.drop_eq_nil_of_le (by rw [bytesOf_length]; omega), quo_esc_nil, err_V acc hlo]; rfl)
          · have hx2 : ¬ s[i].toNat = 92 := fun e => h92 (UInt8.toNat_inj.1 e)
            have H92 : Hid ((s[i] == 92) = false) := by show _ = _; simpa using h92
            clear h92
            go_wp2_with (first | (at_builtin; refine wpList_append_lies _ rfl _ _ _ rfl (w.heap.size + 2) 5 i0 (.int .u8 0) 1 1 Tryz.underlying116 hi hz0 hz1 hz2 rfl (by omega) _ _ _ rfl (hrow.alloc _) ⟨wr.heap.size, 0, none⟩ 1 1 [.int .u8 (s[i].toNat : Int)] rfl rfl (World.news_of_block (heap_alloc_new wr _)) (by simp [Value.oneCell']) (by omega) (by have := HS.out; have := HL.out; unfold maxLen; omega) (by have := HS.out; have := HL.out; omega) (by have := HB.out; simp at this ⊢; omega) (wr.heap.size + 1) (by simp) ?_; intro g cap' w1 hown hgrow hat hg))
            go_roundw
            case rel => exact ⟨i + 1, acc ++ [s[i]], by go_num, HM.out.push hown hgrow (by omega) (by omega) (by rw [HM.out.val, HD.out, quo_plain acc _ H34.out HOk.out H92.out, show i + 1 - (p + 1) = i - (p + 1) + 1 by omega])⟩
            case measure => simp [intOf]; omega
    · have hlt' : ¬ (i : Int) < (s.size : Int) := by omega
      have his : i = s.size := by omega
      go_wp2_with (first | (go_at_call 49; refine (mishap_any _ _ _).mono ?_; rintro e w1 ⟨rfl, hkm⟩; have htw1 := htw.kept hkm; obtain ⟨⟨c0, c1, c2, c3, c4, c5⟩, f0, f1, f2, f3, f4, f5⟩ := htw1.facts))
      exact leave_word Tryz.results74 rfl rfl rfl htw1.1 htw1.2 (HM.out.kept.trans hkm (by simp)) (Nat.le_refl _) (by rw [← HV.out, HM.out.val, List.drop_eq_nil_of_le (by rw [bytesOf_length]; omega), quo_nil, err_V acc hlo, his]; rfl)
end Go.Proofs.YthmdgbmodgfcmaaGreatDoor
/-
  What readWord does.
-/
namespace Go.Proofs.YthmdgbmodgfcmaaGreatDoor
open Go.RowKit

theorem wordV_form (p : Nat) (X : Except Mis (Nat × List UInt8 × Nat × Nat)) : ∃ (k : Int) (t : ByteArray) (n q m e r : Int),
    wordV p X = .tuple #[.agg #[.int .i64 k, .string t, .int .i64 n, .int .i64 q], .int .i64 m, .agg #[.int .i64 e, .int .i64 r]] := by
  cases X with
  | error x => obtain ⟨e, k⟩ := x; exact ⟨_, _, _, _, _, _, _, rfl⟩
  | ok x => obtain ⟨a, b, c, d⟩ := x; exact ⟨_, _, _, _, _, _, _, rfl⟩

set_option maxHeartbeats 4000000 in
set_option maxRecDepth 100000 in
theorem readWord_any (s : ByteArray) (p : Nat) (hp : p < s.size) (hs : s.size ≤ 65536) (w : World) :
    Calls Tryz.prog 51 #[.string s, .int .i64 p] w fun e w' => e = .returned (wordV p (wordOf s[p] ((bytesOf s).drop (p + 1)))) ∧ Kept [] w w' := by
  obtain ⟨k, t, n, q, m, e0, r, hV⟩ := wordV_form p (wordOf s[p] ((bytesOf s).drop (p + 1)))
  have hlt : (p : Int) < (s.size : Int) := by omega
  have h0 : (0 : Int) ≤ (p : Int) := by omega
  cases hl : isLet s[p] with
  | true =>
    have HW : Hid (∀ w, _) := fun w => readName_any s p hp hs hl w
    rw [hV] at HW ⊢
    have HL : Hid _ := hl
    clear hl hs hV
    go_enter Tryz.func51, Tryz.ntmps51
    go_wp2_with (first
      | (go_at_call 70; refine (isLetter_any _ _).mono ?_; rintro e w1 ⟨rfl, hw⟩; replace hw := hw.symm; subst hw; rw [HL.out])
      | (go_at_call 71; refine (HW.out _).mono ?_; rintro e w1 ⟨rfl, hkm⟩; have htw := (two_new w).kept hkm; obtain ⟨⟨c0, c1, c2, c3, c4, c5⟩, f0, f1, f2, f3, f4, f5⟩ := htw.facts))
    exact leave_word Tryz.results51 rfl rfl rfl htw.1 htw.2 ((kept_two w []).trans hkm (by simp)) (Nat.le_refl _) rfl
  | false =>
    cases hd : isDig s[p] with
    | true =>
      have HW : Hid (∀ w, _) := fun w => readNumber_any s p hp hs hl hd w
      rw [hV] at HW ⊢
      have HL : Hid _ := hl
      have HD : Hid _ := hd
      clear hl hs hV hd
      go_enter Tryz.func51, Tryz.ntmps51
      go_wp2_with (first
        | (go_at_call 70; refine (isLetter_any _ _).mono ?_; rintro e w1 ⟨rfl, hw⟩; replace hw := hw.symm; subst hw; rw [HL.out])
        | (go_at_call 72; refine (isDigit_any _ _).mono ?_; rintro e w1 ⟨rfl, hw⟩; replace hw := hw.symm; subst hw; rw [HD.out])
        | (go_at_call 73; refine (HW.out _).mono ?_; rintro e w1 ⟨rfl, hkm⟩; have htw := (two_new w).kept hkm; obtain ⟨⟨c0, c1, c2, c3, c4, c5⟩, f0, f1, f2, f3, f4, f5⟩ := htw.facts))
      exact leave_word Tryz.results51 rfl rfl rfl htw.1 htw.2 ((kept_two w []).trans hkm (by simp)) (Nat.le_refl _) rfl
    | false =>
      by_cases hq : s[p] = 34
      · have HW : Hid (∀ w, _) := fun w => readQuoted_any s p hp hs hq w
        rw [hV] at HW ⊢
        have HL : Hid _ := hl
        have HD : Hid _ := hd
        have hx : s[p].toNat = 34 := by rw [hq]; rfl
        have HLa : Hid (∀ w, Calls Tryz.prog 70 #[.int .u8 34] w fun e w' => e = .returned (.bool false) ∧ w' = w) := fun w => isLetter_any 34 w
        have HDa : Hid (∀ w, Calls Tryz.prog 72 #[.int .u8 34] w fun e w' => e = .returned (.bool false) ∧ w' = w) := fun w => isDigit_any 34 w
        clear hl hs hV hd hq HL HD
        go_enter Tryz.func51, Tryz.ntmps51
        go_wp2_with (first
          | (go_at_call 70; refine (HLa.out _).mono ?_; rintro e w1 ⟨rfl, hw⟩; replace hw := hw.symm; subst hw)
          | (go_at_call 72; refine (HDa.out _).mono ?_; rintro e w1 ⟨rfl, hw⟩; replace hw := hw.symm; subst hw)
          | (go_at_call 74; refine (HW.out _).mono ?_; rintro e w1 ⟨rfl, hkm⟩; have htw := (two_new w).kept hkm; obtain ⟨⟨c0, c1, c2, c3, c4, c5⟩, f0, f1, f2, f3, f4, f5⟩ := htw.facts))
        exact leave_word Tryz.results51 rfl rfl rfl htw.1 htw.2 ((kept_two w []).trans hkm (by simp)) (Nat.le_refl _) rfl
      · have HW : Hid (∀ w, _) := fun w => readSign_any s p hp hs hl hd (by simpa using hq) w
        rw [hV] at HW ⊢
        have HL : Hid _ := hl
        have HD : Hid _ := hd
        have hx : ¬ s[p].toNat = 34 := fun e => hq (UInt8.toNat_inj.1 e)
        clear hl hs hV hd hq
        go_enter Tryz.func51, Tryz.ntmps51
        go_wp2_with (first
          | (go_at_call 70; refine (isLetter_any _ _).mono ?_; rintro e w1 ⟨rfl, hw⟩; replace hw := hw.symm; subst hw; rw [HL.out])
          | (go_at_call 72; refine (isDigit_any _ _).mono ?_; rintro e w1 ⟨rfl, hw⟩; replace hw := hw.symm; subst hw; rw [HD.out])
          | (go_at_call 75; refine (HW.out _).mono ?_; rintro e w1 ⟨rfl, hkm⟩; have htw := (two_new w).kept hkm; obtain ⟨⟨c0, c1, c2, c3, c4, c5⟩, f0, f1, f2, f3, f4, f5⟩ := htw.facts))
        exact leave_word Tryz.results51 rfl rfl rfl htw.1 htw.2 ((kept_two w []).trans hkm (by simp)) (Nat.le_refl _) rfl

end Go.Proofs.YthmdgbmodgfcmaaGreatDoor
/-
  Words one behind the other: how far they reach; what a slice of words is in memory.
-/
namespace Go.Proofs.YthmdgbmodgfcmaaGreatDoor
open Go.RowKit

theorem skipF_le : ∀ (f : Nat) (l : List UInt8) (n : Nat), skipF f l = some n → n ≤ l.length
  | 0, l, n, h => by simp [skipF] at h; omega
  | f + 1, [], n, h => by simp [skipF] at h; omega
  | f + 1, c :: r, n, h => by
    simp only [skipF] at h
    split at h
    · cases hr : skipF f r with
      | none => rw [hr] at h; simp at h
      | some k => rw [hr] at h; have := skipF_le f r k hr; simp at h ⊢; omega
    · split at h
      · cases hk : remEnd (r.drop 1) with
        | none => rw [hk] at h; simp at h
        | some k =>
          rw [hk] at h
          have h2 := remEnd_lt hk
          simp only at h
          cases hr : skipF f ((r.drop 1).drop (k + 2)) with
          | none => rw [hr] at h; simp at h
          | some j =>
            rw [hr] at h
            have h1 := skipF_le f _ j hr
            simp at h h1 h2 ⊢
            omega
      · simp at h; omega

theorem skip_le {l : List UInt8} {n : Nat} (h : skip l = some n) : n ≤ l.length := skipF_le _ _ _ h

theorem quo_le : ∀ (l : List UInt8) (bs : List UInt8) (n : Nat), quo l = .ok (bs, n) → n ≤ l.length
  | [], bs, n, h => by simp [quo] at h
  | c :: r, bs, n, h => by
    rw [quo.eq_def] at h
    simp only at h
    split at h
    · simp at h; simp; omega
    · split at h
      · simp at h
      · split at h
        · cases r with
          | nil => simp at h
          | cons d r' =>
            simp only at h
            cases hu : unesc d with
            | none => rw [hu] at h; simp at h
            | some b =>
              rw [hu] at h
              simp only at h
              cases hq : quo r' with
              | error e => rw [hq] at h; simp at h
              | ok y =>
                obtain ⟨bs', n'⟩ := y
                rw [hq] at h
                have := quo_le r' bs' n' hq
                simp at h ⊢
                omega
        · cases hq : quo r with
          | error e => rw [hq] at h; simp at h
          | ok y =>
            obtain ⟨bs', n'⟩ := y
            rw [hq] at h
            have := quo_le r bs' n' hq
            simp at h ⊢
            omega

theorem tw_len (pred : UInt8 → Bool) (l : List UInt8) : tw pred l ≤ l.length := (List.takeWhile_sublist _).length_le

theorem wordOf_le {c : UInt8} {r : List UInt8} {k : Nat} {t : List UInt8} {v m : Nat} (h : wordOf c r = .ok (k, t, v, m)) : m ≤ r.length + 1 := by
  have hd := tw_len isDig (c :: r)
  have hl := tw_len isLD (c :: r)
  simp only [List.length_cons] at hd hl
  unfold tw at hd hl
  unfold wordOf at h
  split at h
  · simp only at h
    split at h
    · cases h
    · simp only [Except.ok.injEq, Prod.mk.injEq] at h; omega
  · split at h
    · simp only at h
      split at h
      · cases h
      · split at h
        · cases h
        · split at h
          · cases h
          · simp only [Except.ok.injEq, Prod.mk.injEq] at h; omega
    · split at h
      · cases hq : quo r with
        | error e => rw [hq] at h; simp at h
        | ok y =>
          obtain ⟨bs, n⟩ := y
          rw [hq] at h
          have := quo_le r bs n hq
          simp only [Except.ok.injEq, Prod.mk.injEq] at h
          omega
      · split at h
        · rename_i hp
          have : 1 ≤ r.length := by
            cases r with
            | nil => simp [pairAt] at hp
            | cons d t => simp
          simp only [Except.ok.injEq, Prod.mk.injEq] at h; omega
        · split at h
          · simp only [Except.ok.injEq, Prod.mk.injEq] at h; omega
          · cases h

/-- A word's cells. -/
def tokCell (t : Tok) : List Value := [.int .i64 (t.kind : Int), .string (strL t.text), .int .i64 (t.n : Int), .int .i64 (t.at_ : Int)]
def tokCells (ts : List Tok) : List Value := ts.flatMap tokCell
theorem tokCells_snoc (ts : List Tok) (t : Tok) : tokCells (ts ++ [t]) = tokCells ts ++ tokCell t := by simp [tokCells]

/-- Words behind words. -/
def tsh (ts : List Tok) : Except Mis (List Tok) → Except Mis (List Tok)
  | .error e => .error e
  | .ok us => .ok (ts ++ us)

theorem tsh_nil (x : Except Mis (List Tok)) : tsh [] x = x := by cases x <;> rfl

/-- What Tokens hands back: the words, or the mishap. -/
def TokOut (t : TypeId) (w : World) (r : Except Mis (List Tok)) (e : Ending) (w' : World) : Prop := match r with
  | .error (c, k) => e = .returned (.tuple #[.slice none 0 0, .agg #[.int .i64 (c : Int), .int .i64 (k : Int)]]) ∧ Kept [] w w'
  | .ok ts => ∃ v, e = .returned (.tuple #[v, .agg #[.int .i64 0, .int .i64 0]]) ∧ w'.ownsRow w.heap.size t 4 v ts.length (tokCells ts) ∧ Kept [] w w'

end Go.Proofs.YthmdgbmodgfcmaaGreatDoor
