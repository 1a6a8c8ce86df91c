/-
  What readQuoted does.
-/
import Derived.Test.YtmaaiahapmplgaaLQuoted
namespace Go.Proofs.Ytmaaiahapmplgaa
open Go.RowKit

theorem row_form {W : World} {base : Nat} {e : TypeId} {size : Nat} {v : Value} {n : Nat} {xs : List Value} (h : W.ownsRow base e size v n xs) : ∃ ao cap, v = .slice ao n cap := by
  rcases h.2 with ⟨rfl, h0⟩ | ⟨g, cap, cur, rfl, _⟩
  · exact ⟨none, 0, by rw [h0]⟩
  · exact ⟨_, _, rfl⟩

theorem row_base {W : World} {base : Nat} {e : TypeId} {size : Nat} {v : Value} {n : Nat} {xs : List Value} (h : W.ownsRow base e size v n xs) : ∀ k, v.ownBlock = some k → base ≤ k := by
  intro k hk
  rcases h.2 with ⟨rfl, _⟩ | ⟨g, cap, cur, rfl, hb, _⟩
  · simp [Value.ownBlock] at hk
  · simp [Value.ownBlock] at hk; omega

/-- In the midst of a quoted text. -/
structure MidQ (s : ByteArray) (p : Nat) (w wr : World) (sv : Value) (i : Nat) (acc : List UInt8) : Prop where
  row : wr.ownsRow (w.heap.size + 2) 5 1 sv acc.length (cellsOf acc)
  len : acc.length ≤ i
  lo : p + 1 ≤ i
  hi : i ≤ s.size
  two : Two wr w.heap.size
  bel : Below (w.heap.size + 2) ((w.alloc (.cells #[.int .i64 0, .string ⟨#[]⟩, .int .i64 0, .int .i64 0] 33)).alloc (.cells #[.int .i64 0, .int .i64 0] 26)) wr
  val : quo ((bytesOf s).drop (p + 1)) = qsh acc (i - (p + 1)) (quo ((bytesOf s).drop i))

theorem MidQ.kept {s : ByteArray} {p : Nat} {w wr : World} {sv : Value} {i : Nat} {acc : List UInt8} (h : MidQ s p w wr sv i acc) : Kept [] w wr :=
  (kept_two w []).trans (Kept.of_below (by have := h.bel; simpa using this)) (by simp)

theorem Kept.mono_size {w wr : World} (h : Below w.heap.size w wr) : Kept [] w wr := Kept.of_below h

/-- Behind an append. -/
theorem MidQ.push {s : ByteArray} {p : Nat} {w wr w1 : World} {sv v' : Value} {i j : Nat} {acc : List UInt8} {b : UInt8} (h : MidQ s p w wr sv i acc)
    (hrow : w1.ownsRow (w.heap.size + 2) 5 1 v' (acc.length + 1) (cellsOf acc ++ [.int .u8 (b.toNat : Int)])) (hg : (wr.alloc (.cells #[.int .u8 (b.toNat : Int)] 5)).grownBy w1 sv.ownBlock)
    (hij : i + 1 ≤ j) (hj : j ≤ s.size) (hv : quo ((bytesOf s).drop (p + 1)) = qsh (acc ++ [b]) (j - (p + 1)) (quo ((bytesOf s).drop j))) : MidQ s p w w1 v' j (acc ++ [b]) := by
  have hl := h.len
  have h0 := h.lo
  have hb := h.bel
  have hsz := hb.size
  simp at hsz
  have hb1 : Below (w.heap.size + 2) wr w1 := ((Below.refl _ wr).alloc (by omega) _).grown hg (by simp; omega) (row_base h.row)
  refine ⟨by simpa [cellsOf] using hrow, by simp; omega, by omega, hj, ?_, hb.trans hb1, hv⟩
  exact ⟨(hb1.block _ (by omega)).trans h.two.1, (hb1.block _ (by omega)).trans h.two.2⟩

theorem quote_V {p i : Nat} (acc : List UInt8) (h : p + 1 ≤ i) : wordV p (quoW (qsh acc (i - (p + 1)) (.ok ([], 1)))) = .tuple #[.agg #[.int .i64 3, .string ⟨acc.toArray⟩, .int .i64 0, .int .i64 (p : Int)], .int .i64 ((i : Int) + 1), .agg #[.int .i64 0, .int .i64 0]] := by
  unfold qsh quoW wordV strL
  simp only [List.append_nil]
  rw [show ((p + (1 + (i - (p + 1)) + 1) : Nat) : Int) = (i : Int) + 1 by omega]
  rfl

theorem err_V {p i e : Nat} (acc : List UInt8) (h : p + 1 ≤ i) : wordV p (quoW (qsh acc (i - (p + 1)) (.error (e, 0)))) = .tuple #[.agg #[.int .i64 0, .string ⟨#[]⟩, .int .i64 0, .int .i64 0], .int .i64 0, .agg #[.int .i64 (e : Int), .int .i64 (i : Int)]] := by
  unfold qsh quoW wordV
  simp only
  rw [show ((p + (0 + (i - (p + 1)) + 1) : Nat) : Int) = (i : Int) by omega]

theorem shown_int (c : UInt8) : (decide (c < 32) || decide (126 < c)) = (decide ((c.toNat : Int) < 32) || decide (126 < (c.toNat : Int))) := by
  rw [Bool.eq_iff_iff]
  simp [UInt8.lt_iff_toNat_lt]
  omega

set_option maxHeartbeats 8000000 in
set_option maxRecDepth 100000 in
theorem readQuoted_any (s : ByteArray) (p : Nat) (hp : p < s.size) (hs : s.size ≤ 65536) (hq : s[p] = 34) (w : World) :
    Calls Try.prog 34 #[.string s, .int .i64 p] w fun e w' => e = .returned (wordV p (wordOf s[p] ((bytesOf s).drop (p + 1)))) ∧ Kept [] w w' := by
  obtain ⟨V, hV⟩ : ∃ V, wordV p (wordOf s[p] ((bytesOf s).drop (p + 1))) = V := ⟨_, rfl⟩
  rw [hV]
  rw [hq, wordOf_quoted] at hV
  obtain ⟨i0, hi, hz0, hz1, hz2⟩ := info_parts infoU8
  have HS : Hid (s.size ≤ 65536) := hs
  have HV : Hid _ := hV
  have hpb : (p : Int) ≤ 65535 := by omega
  clear hV hs hq
  go_enter Try.func34, Try.ntmps34
  go_wp2
  go_loopw [7, 8] (fun sv iv wr => ∃ (i : Nat) (acc : List UInt8), iv = .int .i64 (i : Int) ∧ MidQ s p w wr sv i acc)
    (fun _ iv _ => s.size - (intOf iv).toNat)
  case atStart => exact ⟨p + 1, [], by go_num, World.ownsRow_nil _ _ _ _, by simp, Nat.le_refl _, hp, two_new w, Below.refl _ _, by rw [show p + 1 - (p + 1) = 0 by omega, qsh_zero]⟩
  case round =>
    obtain ⟨i, acc, rfl, hM⟩ := hrel
    have hlo := hM.lo
    have hhi := hM.hi
    have hrow := hM.row
    have HL : Hid _ := hM.len
    have HM : Hid _ := hM
    have HB : Hid _ := hM.bel.size
    have htw := hM.two
    obtain ⟨ao, cap, rfl⟩ := row_form hrow
    have hib : (i : Int) ≤ 65536 := by have := HS.out; omega
    clear hM
    by_cases hlt : i < s.size
    · have hlt' : (i : Int) < (s.size : Int) := by omega
      have HD : Hid _ := drop_at s i hlt
      by_cases h34 : s[i] = 34
      · have hx : s[i].toNat = 34 := by rw [h34]; rfl
        have hcv := run_string_of_row (P := Try.prog) wr 51 9 5 Try.underlying51 Try.underlying5 Try.underlying9 hrow
        obtain ⟨⟨c0, c1, c2, c3, c4, c5⟩, f0, f1, f2, f3, f4, f5⟩ := htw.facts
        go_wp2
        exact leave_word Try.results34 rfl rfl rfl htw.1 htw.2 HM.out.kept (Nat.le_refl _) (by rw [← HV.out, HM.out.val, HD.out, h34, quo_end, quote_V acc hlo]; rfl)
      · have hx : ¬ s[i].toNat = 34 := fun e => h34 (UInt8.toNat_inj.1 e)
        have H34 : Hid ((s[i] == 34) = false) := by show _ = _; simpa using h34
        clear h34
        by_cases hbad : (s[i].toNat : Int) < 32 ∨ 126 < (s[i].toNat : Int)
        · have HBad : Hid ((decide (s[i] < 32) || decide (126 < s[i])) = true) := by show _ = _; rw [shown_int]; simpa using hbad
          rcases hbad with hbad | hbad
          all_goals
            go_wp2_with (first | (go_at_call 15; refine (mishap_any _ _ _).mono ?_; rintro e w1 ⟨rfl, hkm⟩; have htw1 := htw.kept hkm; obtain ⟨⟨c0, c1, c2, c3, c4, c5⟩, f0, f1, f2, f3, f4, f5⟩ := htw1.facts))
            exact leave_word Try.results34 rfl rfl rfl htw1.1 htw1.2 (HM.out.kept.trans hkm (by simp)) (Nat.le_refl _) (by rw [← HV.out, HM.out.val, HD.out, quo_bad H34.out HBad.out, err_V acc hlo]; rfl)
        · have HOk : Hid ((decide (s[i] < 32) || decide (126 < s[i])) = false) := by show _ = _; rw [shown_int]; simp; omega
          have hb1 : ¬ (s[i].toNat : Int) < 32 := by omega
          have hb2 : ¬ 126 < (s[i].toNat : Int) := by omega
          clear hbad
          by_cases h92 : s[i] = 92
          · have hx2 : s[i].toNat = 92 := by rw [h92]; rfl
            have hx3 : ((92 : Int) < 32) = False := by decide
            by_cases hend : i + 1 < s.size
            · have hend' : (i : Int) + 1 < (s.size : Int) := by omega
              have HD2 : Hid _ := drop_at s (i + 1) hend
              have HU : Hid (∀ w, _) := fun w => unescape_any s (i + 1) hend w
              cases hu : unesc s[i + 1] with
              | none =>
                rw [hu] at HU
                have HN : Hid _ := hu
                clear hu hb1 hb2
                go_wp2_with (first
                  | (go_at_call 45; refine (HU.out _).mono ?_; rintro e w1 ⟨rfl, hw⟩; replace hw := hw.symm; subst hw)
                  | (go_at_call 15; refine (mishap_any _ _ _).mono ?_; rintro e w1 ⟨rfl, hkm⟩; have htw1 := htw.kept hkm; obtain ⟨⟨c0, c1, c2, c3, c4, c5⟩, f0, f1, f2, f3, f4, f5⟩ := htw1.facts))
                exact leave_word Try.results34 rfl rfl rfl htw1.1 htw1.2 (HM.out.kept.trans hkm (by simp)) (Nat.le_refl _) (by rw [← HV.out, HM.out.val, HD.out, HD2.out, h92, quo_esc_bad HN.out, err_V acc hlo]; rfl)
              | some b =>
                rw [hu] at HU
                have HN : Hid _ := hu
                clear hu hb1 hb2
                go_wp2_with (first
                  | (go_at_call 45; refine (HU.out _).mono ?_; rintro e w1 ⟨rfl, hw⟩; replace hw := hw.symm; subst hw)
                  | (at_builtin; refine wpList_append_lies _ rfl _ _ _ rfl (w.heap.size + 2) 5 i0 (.int .u8 0) 1 1 Try.underlying51 hi hz0 hz1 hz2 rfl (by omega) _ _ _ rfl (hrow.alloc _) ⟨wr.heap.size, 0, none⟩ 1 1 [.int .u8 (b.toNat : Int)] rfl rfl (World.news_of_block (heap_alloc_new wr _)) (by simp [Value.oneCell']) (by omega) (by have := HS.out; have := HL.out; unfold maxLen; omega) (by have := HS.out; have := HL.out; omega) (by have := HB.out; simp at this ⊢; omega) (wr.heap.size + 1) (by simp) ?_; intro g cap' w1 hown hgrow hat hg))
                go_roundw
                case rel => exact ⟨i + 2, acc ++ [b], by go_num, HM.out.push hown hgrow (by omega) (by omega) (by rw [HM.out.val, HD.out, HD2.out, h92, quo_esc acc _ HN.out, show i + 2 - (p + 1) = i - (p + 1) + 2 by omega])⟩
                case measure => simp [intOf]; omega
            · have hie : i + 1 = s.size := by omega
              have hie' : (i : Int) + 1 = (s.size : Int) := by omega
              have HU : Hid (∀ w, _) := fun w => unescape_end s w
              clear hb1 hb2
              go_wp2_with (first
                | (go_at_call 45; refine (HU.out _).mono ?_; rintro e w1 ⟨rfl, hw⟩; replace hw := hw.symm; subst hw)
                | (go_at_call 15; refine (mishap_any _ _ _).mono ?_; rintro e w1 ⟨rfl, hkm⟩; have htw1 := htw.kept hkm; obtain ⟨⟨c0, c1, c2, c3, c4, c5⟩, f0, f1, f2, f3, f4, f5⟩ := htw1.facts))
              exact leave_word Try.results34 rfl rfl rfl htw1.1 htw1.2 (HM.out.kept.trans hkm (by simp)) (Nat.le_refl _) (by rw [← HV.out, HM.out.val, HD.out, h92, List.drop_eq_nil_of_le (by rw [bytesOf_length]; omega), quo_esc_nil, err_V acc hlo]; rfl)
          · have hx2 : ¬ s[i].toNat = 92 := fun e => h92 (UInt8.toNat_inj.1 e)
            have H92 : Hid ((s[i] == 92) = false) := by show _ = _; simpa using h92
            clear h92
            go_wp2_with (first | (at_builtin; refine wpList_append_lies _ rfl _ _ _ rfl (w.heap.size + 2) 5 i0 (.int .u8 0) 1 1 Try.underlying51 hi hz0 hz1 hz2 rfl (by omega) _ _ _ rfl (hrow.alloc _) ⟨wr.heap.size, 0, none⟩ 1 1 [.int .u8 (s[i].toNat : Int)] rfl rfl (World.news_of_block (heap_alloc_new wr _)) (by simp [Value.oneCell']) (by omega) (by have := HS.out; have := HL.out; unfold maxLen; omega) (by have := HS.out; have := HL.out; omega) (by have := HB.out; simp at this ⊢; omega) (wr.heap.size + 1) (by simp) ?_; intro g cap' w1 hown hgrow hat hg))
            go_roundw
            case rel => exact ⟨i + 1, acc ++ [s[i]], by go_num, HM.out.push hown hgrow (by omega) (by omega) (by rw [HM.out.val, HD.out, quo_plain acc _ H34.out HOk.out H92.out, show i + 1 - (p + 1) = i - (p + 1) + 1 by omega])⟩
            case measure => simp [intOf]; omega
    · have hlt' : ¬ (i : Int) < (s.size : Int) := by omega
      have his : i = s.size := by omega
      go_wp2_with (first | (go_at_call 15; refine (mishap_any _ _ _).mono ?_; rintro e w1 ⟨rfl, hkm⟩; have htw1 := htw.kept hkm; obtain ⟨⟨c0, c1, c2, c3, c4, c5⟩, f0, f1, f2, f3, f4, f5⟩ := htw1.facts))
      exact leave_word Try.results34 rfl rfl rfl htw1.1 htw1.2 (HM.out.kept.trans hkm (by simp)) (Nat.le_refl _) (by rw [← HV.out, HM.out.val, List.drop_eq_nil_of_le (by rw [bytesOf_length]; omega), quo_nil, err_V acc hlo, his]; rfl)
end Go.Proofs.Ytmaaiahapmplgaa
