/-
  What the reference's bad and blank do.
-/
import Derived.Test.YtmaaiahapmplgaaRWordV
import Derived.Test.YtmaaiahapmplgaaLBlanks
namespace Go.Proofs.Ytmaaiahapmplgaa
open Go.RowKit

set_option maxHeartbeats 400000 in
theorem bad_any (e i : Int) (w : World) : Calls Try.prog 18 #[.int .i64 e, .int .i64 i] w fun x w' => x = .returned (.agg #[.int .i64 e, .int .i64 i]) ∧ Kept [] w w' := by
  go_enter Try.func18, Try.ntmps18
  go_wp2
  go_returns
  exact ⟨rfl, Kept.alloc [] _ _⟩

/-- What blank hands back; where a remark does not end, its first number is any. -/
def blankV (j : Int) (s : ByteArray) (p : Nat) : Value := match skip ((bytesOf s).drop p) with
  | none => .tuple #[.int .i64 j, .agg #[.int .i64 21, .int .i64 s.size]]
  | some n => .tuple #[.int .i64 ((p + n : Nat) : Int), .agg #[.int .i64 0, .int .i64 0]]

theorem blankV_none {s : ByteArray} {p : Nat} (j : Int) (h : skip ((bytesOf s).drop p) = none) : blankV j s p = .tuple #[.int .i64 j, .agg #[.int .i64 21, .int .i64 s.size]] := by unfold blankV; rw [h]
theorem blankV_some {s : ByteArray} {p n : Nat} (j : Int) (h : skip ((bytesOf s).drop p) = some n) : blankV j s p = .tuple #[.int .i64 ((p + n : Nat) : Int), .agg #[.int .i64 0, .int .i64 0]] := by unfold blankV; rw [h]
theorem blankV_step {s : ByteArray} {a b : Nat} {d : Nat} (j : Int) (hb : b = a + d) (h : skip ((bytesOf s).drop a) = (skip ((bytesOf s).drop b)).map (· + d)) : blankV j s a = blankV j s b := by
  unfold blankV
  rw [h]
  cases skip ((bytesOf s).drop b) with
  | none => rfl
  | some n =>
    simp only [Option.map_some]
    rw [show a + (n + d) = b + n by omega]
theorem blankV_blank {s : ByteArray} {a : Nat} (j : Int) (h : a < s.size) (hb : isBl s[a] = true) : blankV j s a = blankV j s (a + 1) :=
  blankV_step j (d := 1) rfl (by rw [drop_at s a h, skip_blank hb])
theorem blankV_rem {s : ByteArray} {a k : Nat} (j : Int) (h : remAt ((bytesOf s).drop a) = true) (hk : remEnd ((bytesOf s).drop (a + 2)) = some k) : blankV j s a = blankV j s (a + 2 + k + 2) :=
  blankV_step j (d := k + 4) (by omega) (by rw [(remAt_form h).1, skip_rem hk, List.drop_drop, show a + 2 + (k + 2) = a + 2 + k + 2 by omega])
theorem blankV_open {s : ByteArray} {a : Nat} (j : Int) (h : remAt ((bytesOf s).drop a) = true) (hk : remEnd ((bytesOf s).drop (a + 2)) = none) : blankV j s a = .tuple #[.int .i64 j, .agg #[.int .i64 21, .int .i64 s.size]] :=
  blankV_none j (by rw [(remAt_form h).1, skip_open hk])
theorem blankV_stop {s : ByteArray} {a : Nat} (j : Int) (h : a < s.size) (hb : isBl s[a] = false) (hr : remAt ((bytesOf s).drop a) = false) : blankV j s a = .tuple #[.int .i64 (a : Int), .agg #[.int .i64 0, .int .i64 0]] :=
  blankV_some (n := 0) j (by rw [drop_at s a h] at hr ⊢; rw [remAt_head] at hr; exact skip_other hb hr)
theorem blankV_end {s : ByteArray} (j : Int) : blankV j s s.size = .tuple #[.int .i64 (s.size : Int), .agg #[.int .i64 0, .int .i64 0]] :=
  blankV_some (n := 0) j (by rw [List.drop_eq_nil_of_le (by rw [bytesOf_length]; exact Nat.le_refl _)]; rfl)

/-- How far the end of a remark has been looked for. -/
def RemTo (s : ByteArray) (a b : Nat) : Prop := a ≤ b ∧ remEnd ((bytesOf s).drop a) = (remEnd ((bytesOf s).drop b)).map (· + (b - a))

theorem RemTo.refl (s : ByteArray) (a : Nat) : RemTo s a a := ⟨Nat.le_refl _, by cases remEnd ((bytesOf s).drop a) <;> simp⟩

theorem RemTo.next {s : ByteArray} {a b : Nat} (h : RemTo s a b) (hb : b + 1 < s.size) (hn : ¬ (s[b] = 42 ∧ s[b + 1] = 47)) : RemTo s a (b + 1) := by
  refine ⟨by have := h.1; omega, ?_⟩
  have h1 := h.1
  rw [h.2, drop_at s b (by omega)]
  have e : remEnd (s[b] :: (bytesOf s).drop (b + 1)) = (remEnd ((bytesOf s).drop (b + 1))).map (· + 1) := by
    rw [remEnd, if_neg]
    rw [drop_at s (b + 1) hb]
    simpa using hn
  rw [e]
  cases remEnd ((bytesOf s).drop (b + 1)) with
  | none => rfl
  | some k => simp; omega

theorem RemTo.found {s : ByteArray} {a b : Nat} (h : RemTo s a b) (hb : b + 1 < s.size) (h1 : s[b] = 42) (h2 : s[b + 1] = 47) : remEnd ((bytesOf s).drop a) = some (b - a) := by
  rw [h.2, drop_at s b (by omega), drop_at s (b + 1) hb, h1, h2]
  simp [remEnd]

theorem RemTo.none {s : ByteArray} {a b : Nat} (h : RemTo s a b) (hb : s.size ≤ b + 1) : remEnd ((bytesOf s).drop a) = none := by
  rw [h.2]
  by_cases hlt : b < s.size
  · rw [drop_at s b hlt, List.drop_eq_nil_of_le (by rw [bytesOf_length]; omega)]
    simp [remEnd]
  · rw [List.drop_eq_nil_of_le (by rw [bytesOf_length]; omega)]
    simp [remEnd]

theorem remAt_three {s : ByteArray} {a : Nat} (h : a < s.size) (hr : remAt ((bytesOf s).drop a) = false) : ¬ s[a] = 47 ∨ s.size ≤ a + 1 ∨ ∃ h2 : a + 1 < s.size, ¬ s[a + 1] = 42 := by
  by_cases h1 : s[a] = 47
  · by_cases h2 : a + 1 < s.size
    · refine .inr (.inr ⟨h2, fun h3 => ?_⟩)
      rw [drop_at s a h, drop_at s (a + 1) h2, remAt_head] at hr
      simp [h1, h3] at hr
    · exact .inr (.inl (by omega))
  · exact .inl h1

theorem nat_of_u8 {c d : UInt8} (h : c = d) : c.toNat = d.toNat := by rw [h]
theorem nat_ne_u8 {c d : UInt8} (h : ¬ c = d) : ¬ c.toNat = d.toNat := fun e => h (UInt8.toNat_inj.1 e)

set_option maxHeartbeats 8000000 in
set_option maxRecDepth 100000 in
theorem blank_any (s : ByteArray) (p : Nat) (hp : p ≤ s.size) (hs : s.size ≤ 65536) (w : World) :
    Calls Try.prog 19 #[.string s, .int .i64 p] w fun e w' => (∃ j, e = .returned (blankV j s p)) ∧ Kept [] w w' := by
  have HS : Hid (s.size ≤ 65536) := hs
  have b5 := heap_alloc_new w (.cells #[.int .i64 0, .int .i64 0] 26)
  obtain ⟨Z, hZ⟩ : ∃ Z : Int, (s.size : Int) = Z := ⟨_, rfl⟩
  have hZ0 : Z ≤ 65536 := by omega
  clear hs
  go_enter Try.func19, Try.ntmps19
  go_wp2
  go_loop [1] (fun iv => ∃ a : Nat, p ≤ a ∧ a ≤ s.size ∧ iv = .int .i64 (a : Int) ∧ ∀ j, blankV j s p = blankV j s a)
    (fun iv => s.size - (intOf iv).toNat)
  case atStart => exact ⟨p, Nat.le_refl _, hp, rfl, fun _ => rfl⟩
  case round =>
    obtain ⟨a, hpa, has, rfl, hskip⟩ := hrel
    have HSK : Hid _ := hskip
    clear hskip hp
    by_cases hlt : a < s.size
    · have hlt' : (a : Int) < Z := by omega
      cases hr : remAt ((bytesOf s).drop a) with
      | true =>
        have HR : Hid _ := hr
        have ha2 := (remAt_form hr).2
        have ha2' : (a : Int) + 1 < Z := by omega
        have ha3 : a + 1 < s.size := by omega
        have hf := (remAt_form hr).1
        rw [drop_at s a hlt, drop_at s (a + 1) ha3] at hf
        have hx : s[a] = 47 ∧ s[a + 1] = 42 := by
          simp only [List.cons.injEq] at hf
          exact ⟨hf.1, hf.2.1⟩
        have hx1 : s[a].toNat = 47 := nat_of_u8 hx.1
        have hx2 : s[a + 1].toNat = 42 := nat_of_u8 hx.2
        clear hr hf hx
        go_wp2
        go_loop [1] (fun iv => ∃ b : Nat, b ≤ s.size ∧ iv = .int .i64 (b : Int) ∧ RemTo s (a + 2) b)
          (fun iv => s.size - (intOf iv).toNat)
        case atStart => exact ⟨a + 2, ha2, by go_num, RemTo.refl _ _⟩
        case round =>
          obtain ⟨b, hbs, rfl, hRT⟩ := hrel
          have HRT : Hid (RemTo s (a + 2) b) := hRT
          have hab := hRT.1
          clear hRT hx1 hx2
          by_cases hbl : b + 1 < s.size
          · have hbl' : (b : Int) + 1 < Z := by omega
            have hb0 : b < s.size := by omega
            have hb0' : (b : Int) < Z := by omega
            by_cases h42 : s[b] = 42
            · by_cases h47 : s[b + 1] = 47
              · have hx1 : s[b].toNat = 42 := nat_of_u8 h42
                have hx2 : s[b + 1].toNat = 47 := nat_of_u8 h47
                have HF : Hid _ := HRT.out.found hbl h42 h47
                clear h42 h47
                go_wp2
                go_round
                case rel => exact ⟨b + 2, by omega, by omega, by go_num, fun j => (HSK.out j).trans (by rw [blankV_rem j HR.out HF.out, show a + 2 + (b - (a + 2)) + 2 = b + 2 by omega])⟩
                case measure => simp [intOf]; omega
              · have hx1 : s[b].toNat = 42 := nat_of_u8 h42
                have hx2 : (((s[b + 1].toNat : Nat) : Int) == 47) = false := by have := nat_ne_u8 h47; simp at this ⊢; omega
                have HN : Hid (¬ (s[b] = 42 ∧ s[b + 1] = 47)) := fun h => h47 h.2
                clear h42 h47
                go_wp2
                go_round
                case rel => exact ⟨b + 1, by omega, by go_num, HRT.out.next hbl HN.out⟩
                case measure => simp [intOf]; omega
            · have hx1 : ¬ s[b].toNat = 42 := nat_ne_u8 h42
              have HN : Hid (¬ (s[b] = 42 ∧ s[b + 1] = 47)) := fun h => h42 h.1
              clear h42
              go_wp2
              go_round
              case rel => exact ⟨b + 1, by omega, by go_num, HRT.out.next hbl HN.out⟩
              case measure => simp [intOf]; omega
          · have hbl' : ¬ (b : Int) + 1 < Z := by omega
            have hbl2 : Z ≤ (b : Int) + 1 := by omega
            have HF : Hid _ := HRT.out.none (by omega)
            clear hbl
            go_wp2_with (first
              | (go_at_call 18; refine (bad_any _ _ _).mono ?_; rintro e w1 ⟨rfl, hkm⟩; have b6 := hkm.heap b5 (by simp); have c0 := cell_blk b6 0; have c1 := cell_blk b6 1; have f0 := free_blk b6 0; have f1 := free_blk b6 1; simp at c0 c1))
            have b7 := mis_set (a := .int .i64 21) (b := .int .i64 Z) b6
            have e0 := cell_blk b7 0
            have e1 := cell_blk b7 1
            simp at e0 e1
            refine bodyPost_ret (v := .tuple #[.int .i64 (b : Int), .agg #[.int .i64 21, .int .i64 Z]]) ?_ rfl ⟨⟨(b : Int), ?_⟩, ?_⟩
            · simp only [results, Try.results19]
              simp [go_sem, e0, e1]
            · rw [HSK.out, blankV_open _ HR.out HF.out, hZ]
            · exact (((Kept.alloc [] w _).trans hkm (by simp)).trans (Kept.setCell _ _ _) (by simp)).trans (Kept.setCell _ _ _) (by simp)
      | false =>
        have HR : Hid _ := hr
        cases hb : isBl s[a] with
        | true =>
          have HB : Hid _ := hb
          have hv : s[a] = 9 ∨ s[a] = 10 ∨ s[a] = 13 ∨ s[a] = 32 := by
            unfold isBl at hb
            simpa [or_assoc] using hb
          clear hb hr
          rcases hv with hv | hv | hv | hv
          all_goals
            have hx := nat_of_u8 hv
            simp only [show (9 : UInt8).toNat = 9 from rfl, show (10 : UInt8).toNat = 10 from rfl, show (13 : UInt8).toNat = 13 from rfl, show (32 : UInt8).toNat = 32 from rfl] at hx
            clear hv
            go_wp2
            go_round
            case rel => exact ⟨a + 1, by omega, by omega, by go_num, fun j => (HSK.out j).trans (blankV_blank j hlt HB.out)⟩
            case measure => simp [intOf]; omega
        | false =>
          have HB : Hid _ := hb
          have hn : ¬ s[a] = 9 ∧ ¬ s[a] = 10 ∧ ¬ s[a] = 13 ∧ ¬ s[a] = 32 := by
            unfold isBl at hb
            simpa [and_assoc] using hb
          have n1 : ¬ s[a].toNat = 9 := nat_ne_u8 hn.1
          have n2 : ¬ s[a].toNat = 10 := nat_ne_u8 hn.2.1
          have n3 : ¬ s[a].toNat = 13 := nat_ne_u8 hn.2.2.1
          have n4 : ¬ s[a].toNat = 32 := nat_ne_u8 hn.2.2.2
          have h3 := remAt_three hlt hr
          clear hn hb hr
          by_cases hsl : s[a] = 47
          · have hx : s[a].toNat = 47 := nat_of_u8 hsl
            rcases h3 with h3 | h3 | ⟨h4, h3⟩
            · exact absurd hsl h3
            · have h3' : ¬ (a : Int) + 1 < Z := by omega
              clear hsl n1 n2 n3 n4
              go_wp2
              go_returns
              exact ⟨⟨0, by rw [HSK.out, blankV_stop _ hlt HB.out HR.out]⟩, Kept.alloc [] _ _⟩
            · have h3' : (a : Int) + 1 < Z := by omega
              have hx2 : (((s[a + 1].toNat : Nat) : Int) == 42) = false := by have := nat_ne_u8 h3; simp at this ⊢; omega
              clear hsl n1 n2 n3 n4 h3
              go_wp2
              go_returns
              exact ⟨⟨0, by rw [HSK.out, blankV_stop _ hlt HB.out HR.out]⟩, Kept.alloc [] _ _⟩
          · have hx : (((s[a].toNat : Nat) : Int) == 47) = false := by have := nat_ne_u8 hsl; simp at this ⊢; omega
            have m1 : (((s[a].toNat : Nat) : Int) == 9) = false := by simp; omega
            have m2 : (((s[a].toNat : Nat) : Int) == 10) = false := by simp; omega
            have m3 : (((s[a].toNat : Nat) : Int) == 13) = false := by simp; omega
            have m4 : (((s[a].toNat : Nat) : Int) == 32) = false := by simp; omega
            clear hsl h3 n1 n2 n3 n4
            go_wp2
            go_returns
            exact ⟨⟨0, by rw [HSK.out, blankV_stop _ hlt HB.out HR.out]⟩, Kept.alloc [] _ _⟩
    · have hlt' : ¬ (a : Int) < Z := by omega
      have has2 : a = s.size := by omega
      subst has2
      go_wp2
      go_returns
      exact ⟨⟨0, by rw [HSK.out, blankV_end, ← hZ]⟩, Kept.alloc [] _ _⟩

end Go.Proofs.Ytmaaiahapmplgaa
