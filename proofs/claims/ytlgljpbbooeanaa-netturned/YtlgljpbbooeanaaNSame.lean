/-
  Are two lists of numbers the same: what the reference's Same answers.
-/
import Derived.Test.YtlgljpbbooeanaaNRep
import Derived.WalkKit
import Derived.WalkSpells
import Derived.WalkLawsBesides
import Derived.Deep.QuietTactic
import Derived.BigQuiet
import Derived.Deep.RegionWith
namespace Go.Proofs.Ytlgljpbbooeanaa
open Go.RowKit

def sameTo {α : Type} (ss us : List α) (i : Nat) : Prop := ∀ k (h : k < ss.length) (h' : k < us.length), k < i → ss[k] = us[k]
theorem sameTo_zero {α : Type} (ss us : List α) : sameTo ss us 0 := fun _ _ _ h => absurd h (Nat.not_lt_zero _)
theorem sameTo_succ {α : Type} {ss us : List α} {i : Nat} (hi : i < ss.length) (hu : i < us.length) (h : sameTo ss us i) (hs : ss[i] = us[i]) : sameTo ss us (i + 1) := fun k hk hk' hl => by
  rcases Nat.lt_or_ge k i with h1 | h1
  · exact h k hk hk' h1
  · obtain rfl : k = i := by omega
    exact hs
theorem sameTo_all {α : Type} {ss us : List α} (hl : ss.length = us.length) (h : sameTo ss us ss.length) : ss = us :=
  List.ext_getElem hl fun k h1 h2 => h k h1 h2 h1

theorem nu_drewN (w : World) (n : Nat) : Nu w (w.drewN n) := Mv.drewN _ w n

set_option maxHeartbeats 4000000 in
set_option maxRecDepth 20000 in
theorem rSame_any (w : World) {B : Nat} {ao bo : Option Addr} {cap dap : Nat} (xs ys : List Int) (h : IntsAt w B ao xs) (hu : IntsAt w B bo ys) (hB : B ≤ w.heap.size) :
    Calls Try.prog 32 #[.slice ao xs.length cap, .slice bo ys.length dap] w fun r w' => r = .returned (.bool (decide (xs = ys))) ∧ Nu w w' := by
  obtain ⟨A, hA⟩ : ∃ A, decide (xs = ys) = A := ⟨_, rfl⟩
  rw [hA]
  have HA : Hid (decide (xs = ys) = A) := hA
  have hlim := h.lim
  have hlim2 := hu.lim
  have HS : Hid (IntsAt w B ao xs) := h
  have HU : Hid (IntsAt w B bo ys) := hu
  clear h hu hA
  by_cases h2 : xs.length = ys.length
  case neg =>
    have HM : Hid (A = false) := HA.out.symm.trans (decide_eq_false (fun e => h2 (congrArg List.length e)))
    have h2' : ¬ (xs.length : Int) = (ys.length : Int) := by omega
    go_enter Try.func32, Try.ntmps32
    go_wp2
    go_ret
    exact ⟨by rw [HM.out]; rfl, Mv.refl _ _⟩
  have HL : Hid (xs.length = ys.length) := h2
  rw [← h2]
  clear h2
  go_enter Try.func32, Try.ntmps32
  go_wp2
  go_loopw [5] (fun iv wr => ∃ (i : Nat), i ≤ xs.length ∧ iv = .int .i64 (i : Int) ∧ Hid (sameTo xs ys i) ∧ Nu w wr)
    (fun iv _ => xs.length - (intOf iv).toNat)
  case atStart => exact ⟨0, Nat.zero_le _, rfl, sameTo_zero _ _, Mv.refl _ _⟩
  case round =>
    obtain ⟨i, hi, rfl, HI, hbr⟩ := hrel
    have HW : Hid (Nu w wr) := hbr
    have hbb := (hbr.nu_below).mono hB
    clear hbr
    rcases Nat.lt_or_ge i xs.length with hlt | hge
    · have hlt' : (i : Int) < (xs.length : Int) := by omega
      have hltu : i < ys.length := by have := HL.out; omega
      rcases (HS.out.below hbb (Nat.le_refl _)).row with h0 | ⟨b, off, rfl, hbB, hit⟩
      · omega
      rcases (HU.out.below hbb (Nat.le_refl _)).row with h0 | ⟨b', off', rfl, hbB', hit'⟩
      · have := HL.out; omega
      have hx := hit i hlt
      have hy := hit' i hltu
      have HT : Hid (i < xs.length ∧ i < ys.length) := ⟨hlt, hltu⟩
      obtain ⟨s, HE, c0⟩ : ∃ s, Hid (xs[i]'hlt = s) ∧ wr.cell? ⟨b, off + i, none⟩ = some (.int .i64 s) := ⟨_, rfl, hx⟩
      obtain ⟨u, HF, e0⟩ : ∃ s, Hid (ys[i]'hltu = s) ∧ wr.cell? ⟨b', off' + i, none⟩ = some (.int .i64 s) := ⟨_, rfl, hy⟩
      clear hx hit hy hit' hbb
      by_cases hsu : s = u
      · have HO : Hid (sameTo xs ys (i + 1)) := sameTo_succ HT.out.1 HT.out.2 HI.out (by rw [HE.out, HF.out]; exact hsu)
        rw [← hsu] at e0
        clear hsu
        go_wp2
        go_quiet (fail)
        go_wp2
        go_roundw
        case rel => exact ⟨i + 1, HT.out.1, by go_num, HO, mv0 HW.out (nu_drewN _ _)⟩
        case measure => have := HT.out.1; simp [intOf]; omega
      · have HN : Hid (A = false) := HA.out.symm.trans (decide_eq_false (fun e => hsu (by
          rw [← HE.out, ← HF.out]
          simp only [e])))
        go_wp2
        go_quiet (fail)
        go_wp2
        go_ret
        exact ⟨by rw [HN.out]; rfl, mv0 HW.out (nu_drewN _ _)⟩
    · obtain rfl : i = xs.length := by omega
      have HM : Hid (A = true) := HA.out.symm.trans (decide_eq_true (sameTo_all HL.out HI.out))
      go_wp2
      go_ret
      exact ⟨by rw [HM.out]; rfl, HW.out⟩

end Go.Proofs.Ytlgljpbbooeanaa
