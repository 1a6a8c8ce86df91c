/-
  QSpoil.
-/
import Derived.Test.YtidihaecgmbhpaaDoorM9
/-
  An owner's writing into a formula: what spoil does.
-/
set_option linter.unusedSimpArgs false
namespace Go.Proofs.YtidihaecgmbhpaaDoor
open Go.RowKit Q

/-- What spoil leaves. -/
def SpoilOut (P : Nat → Prop) (w : World) (e : Ending) (w' : World) : Prop := e = .returned (.tuple #[]) ∧ Mv P w w' ∧ ∀ m v, Sp w P m v → Sp w' P m v

theorem spoil_out0 {P : Nat → Prop} {w w' : World} (h : Nu w w') : SpoilOut P w (.returned (.tuple #[])) w' := ⟨rfl, h.mono (fun _ h => h.elim), fun _ _ hs => hs.nu h⟩

set_option maxHeartbeats 8000000 in
theorem spoil_empty (P : Nat → Prop) (w : World) (k : Int) (s : ByteArray) (ao : Option Addr) (len : Nat) : Calls Tryd.prog 10 #[.agg #[.int .i64 k, .string s, .slice ao len 0]] w (SpoilOut P w) := by
  obtain ⟨O, hO⟩ : ∃ O, SpoilOut P w = O := ⟨_, rfl⟩
  rw [hO]
  have HO := hid hO
  obtain ⟨W0, hW0⟩ : ∃ W0, w.alloc (.cells #[.int .i64 k, .string s, .slice ao len 0] 24) = W0 := ⟨_, rfl⟩
  have hB := box3 w (.int .i64 k) (.string s) (.slice ao len 0) 24
  rw [hW0] at hB
  have HB := hid hB
  clear hO
  go_enter Tryd.func10, Tryd.ntmps10
  go_upto_region 1 with fail
  clear hW0 hB
  have c2 := HB.out.a2
  go_wp2_with fail
  go_loop [3] (fun iv => iv = .int .i64 0) (fun iv => (intOf iv).toNat)
  case atStart => rfl
  case round =>
    subst hrel
    go_wp2_with fail
    go_returns
    rw [← HO.out]
    exact spoil_out0 HB.out.mv

set_option maxHeartbeats 8000000 in
theorem spoil_any (P : Nat → Prop) : ∀ (m : Nat) (w : World) (k : Int) (s : ByteArray) (c : Value), Sp w P m c → Calls Tryd.prog 10 #[.agg #[.int .i64 k, .string s, c]] w (SpoilOut P w) := by
  intro m
  induction m with
  | zero =>
    intro w k s c ⟨ao, len, hc⟩
    subst hc
    exact spoil_empty P w k s ao len
  | succ m ih =>
    intro w k s c h
    have HSp := hid h
    obtain ⟨ao, len, cap, rfl, hlc, hcap, hor⟩ := h
    rcases hor with rfl | ⟨b, o, rfl, hPb, _⟩
    · exact spoil_empty P w k s ao len
    obtain ⟨O, hO⟩ : ∃ O, SpoilOut P w = O := ⟨_, rfl⟩
    rw [hO]
    have HO := hid hO
    obtain ⟨W0, hW0⟩ : ∃ W0, w.alloc (.cells #[.int .i64 k, .string s, .slice (some ⟨b, 3 * o, none⟩) len cap] 24) = W0 := ⟨_, rfl⟩
    have hB := box3 w (.int .i64 k) (.string s) (.slice (some ⟨b, 3 * o, none⟩) len cap) 24
    rw [hW0] at hB
    have HB := hid hB
    have HIH := hid ih
    have HPB := hid hPb
    clear hO ih hPb
    have hlc' : (len : Int) ≤ (cap : Int) := by omega
    go_enter Tryd.func10, Tryd.ntmps10
    go_upto_region 1 with fail
    clear hW0 hB
    have c2 := HB.out.a2
    go_wp2_with fail
    clear c2
    go_loopw [3] (fun iv wr => ∃ i : Nat, i ≤ cap ∧ iv = .int .i64 (i : Int) ∧ Hid (Mv P w wr) ∧ Hid (∀ m' v, Sp w P m' v → Sp wr P m' v)) (fun iv _ => cap - (intOf iv).toNat)
    case atStart => exact ⟨0, Nat.zero_le _, rfl, HB.out.mv.mono (fun _ h => h.elim), fun m' v hs => hs.nu HB.out.mv⟩
    case round =>
      obtain ⟨i, hi, rfl, HM, HK⟩ := hrel
      by_cases hj : i < cap
      · have hj' : (i : Int) < (cap : Int) := by omega
        obtain ⟨ao', len', cap', e1, _, _, e4⟩ := HK.out _ _ HSp.out
        have hel : ∃ k s c, wr.cell? ⟨b, 3 * o + i * 3, none⟩ = some (.int .i64 k) ∧ wr.cell? ⟨b, 3 * o + i * 3 + 1, none⟩ = some (.string s) ∧ wr.cell? ⟨b, 3 * o + i * 3 + 2, none⟩ = some c ∧ Sp wr P m c := by
          injection e1 with e5 e6 e7
          subst e6 e7
          rcases e4 with h0 | ⟨b', o', g1, _, g3⟩
          · omega
          · rw [← e5] at g1
            injection g1 with g1
            injection g1 with g1 g2
            have : o' = o := by omega
            subst g1 this
            obtain ⟨k, s, c, x0, x1, x2, x3, _⟩ := g3 i hj
            exact ⟨k, s, c, x0, x1, x2, x3⟩
        obtain ⟨ke, se, ce, x0, x1, x2, x3⟩ := hel
        have HX := hid (HIH.out wr ke se ce x3)
        have hce : ∃ a l c, ce = .slice a l c := by
          cases m with
          | zero => obtain ⟨a, l, h⟩ := x3; exact ⟨a, l, 0, h⟩
          | succ m => obtain ⟨a, l, c, h, _⟩ := x3; exact ⟨a, l, c, h⟩
        obtain ⟨ae, le, cee, rfl⟩ := hce
        clear e1 e4 x3
        go_wp2_with fail
        refine Calls.mono HX.out ?_
        rintro e w1 ⟨rfl, hm1, hk1⟩
        have HM1 := hid hm1
        have HK1 := hid hk1
        -- the element behind the call
        obtain ⟨ao', len', cap', e1, _, _, e4⟩ := hk1 _ _ (HK.out _ _ HSp.out)
        have hel : ∃ k s c, w1.cell? ⟨b, 3 * o + i * 3, none⟩ = some (.int .i64 k) ∧ w1.cell? ⟨b, 3 * o + i * 3 + 1, none⟩ = some (.string s) ∧ w1.cell? ⟨b, 3 * o + i * 3 + 2, none⟩ = some c ∧ w1.frozen? ⟨b, 3 * o + i * 3, none⟩ = false ∧ w1.frozen? ⟨b, 3 * o + i * 3 + 1, none⟩ = false ∧ w1.frozen? ⟨b, 3 * o + i * 3 + 2, none⟩ = false := by
          injection e1 with e5 e6 e7
          subst e6 e7
          rcases e4 with h0 | ⟨b', o', g1, _, g3⟩
          · omega
          · rw [← e5] at g1
            injection g1 with g1
            injection g1 with g1 g2
            have : o' = o := by omega
            subst g1 this
            obtain ⟨k, s, c, x0, x1, x2, _, f0, f1, f2⟩ := g3 i hj
            exact ⟨k, s, c, x0, x1, x2, f0, f1, f2⟩
        obtain ⟨k1, s1, c1, y0, y1, y2, f0, f1, f2⟩ := hel
        have hoi : 3 * o + i * 3 = 3 * (o + i) := by omega
        have HS1 : Hid (∀ m' v, Sp w P m' v → Sp (spoilt w1 b (3 * o + i * 3)) P m' v) := fun m' v hs => by
          rw [hoi]
          rw [hoi] at y0 y1 y2
          exact (HK1.out _ _ (HK.out _ _ hs)).spoilt y0 y1 y2
        have HMN : Hid (Mv P w (spoilt w1 b (3 * o + i * 3))) := (HM.out.trans HM1.out (fun _ h => .inl h)).trans (spoilt_mv w1 b _) (fun y hy => .inl (by rw [hy]; exact HPB.out))
        clear hm1 hk1 e1 e4 hoi x0 x1 x2
        go_wp2_with fail
        go_roundw
        case rel => exact ⟨i + 1, hj, by go_num, HMN, HS1⟩
        case measure => simp [intOf]; omega
      · have hj' : ¬ (i : Int) < (cap : Int) := by omega
        go_wp2_with fail
        go_returns
        rw [← HO.out]
        exact ⟨rfl, HM.out, HK.out⟩

end Go.Proofs.YtidihaecgmbhpaaDoor
