/-
  The walk of the statement sextantlaw01.CodecReads: whatever is read of whatever bytes, it answers true, and what was there is as it was.
-/
import Derived.Test.YtfbfdfenfcjolaaRows
import Derived.Test.YtfbfdfenfcjolaaGets
import Derived.Test.YtfbfdfenfcjolaaXText
import Derived.Test.YtfbfdfenfcjolaaFrame
namespace Go.Proofs.Ytfbfdfenfcjolaa.codecReads
open Go.RowKit

/-- Both readers at one place. -/
structure Both (w : World) (W : World) (s : ByteArray) (p : Nat) : Prop where
  r : RdIs 76 W w.heap.size s p
  x : RdIs 42 W (w.heap.size + 1) s p
  k : Below w.heap.size w W

theorem both_new (w : World) (s : ByteArray) : Both w ((w.alloc (.cells #[.string s, .int .i64 0] 76)).alloc (.cells #[.string s, .int .i64 0] 42)) s 0 := by
  have hx := xrd_new (w.alloc (.cells #[.string s, .int .i64 0] 76)) s
  rw [show (w.alloc (.cells #[.string s, .int .i64 0] 76)).heap.size = w.heap.size + 1 by simp] at hx
  exact ⟨(rd_new w s).kept (Kept.alloc [] _ _) (by simp), hx, (((Below.refl _ w).alloc (Nat.le_refl _) _).alloc (by simp) _)⟩

theorem Both.known {w W W' : World} {s : ByteArray} {p : Nat} (h : Both w W s p) (hk : Kept [] W W') : Both w W' s p :=
  ⟨h.r.kept hk (by simp), h.x.kept hk (by simp), h.k.trans (hk.from (by have := h.k.size; omega) (by simp))⟩

/-- One has read, then the other. -/
theorem Both.step {w W W1 W2 : World} {s : ByteArray} {p q : Nat} (h : Both w W s p) (hr : RdIs 76 W1 w.heap.size s q) (hk1 : Kept [w.heap.size] W W1) (hx : RdIs 42 W2 (w.heap.size + 1) s q) (hk2 : Kept [w.heap.size + 1] W1 W2) : Both w W2 s q :=
  ⟨hr.kept hk2 (by simp), hx, (h.k.trans (hk1.from (by have := h.k.size; omega) (by simp))).trans (hk2.from (by have := h.k.size; have := hk1.size; omega) (by simp))⟩

theorem Both.x1 {w W W1 : World} {s : ByteArray} {p : Nat} (h : Both w W s p) (hk1 : Kept [w.heap.size] W W1) : RdIs 42 W1 (w.heap.size + 1) s p := h.x.kept hk1 (by simp)

set_option maxHeartbeats 8000000 in
set_option maxRecDepth 100000 in
theorem walk_nat (s : ByteArray) (ao : Option Addr) (len cap : Nat) (I : Nat → Ask) (w : World) (hs : s.size ≤ 140737488355328) (hI : AsksAt w w.heap.size ao len I) :
    Calls Try.prog 4 #[.string s, .slice ao len cap] w fun e w' => e = .returned (.bool true) ∧ Below w.heap.size w w' := by
  have hlim := hI.lim
  go_enter Try.func4, Try.ntmps4
  go_wp2_with fail
  refine (Read_any s w).mono ?_
  rintro e w' ⟨rfl, rfl⟩
  go_wp2_with fail
  refine (known_any _).mono ?_
  rintro e w2 ⟨rfl, hk⟩
  have hb := (both_new w s).known hk
  clear hk
  go_wp2
  go_loopw [7] (fun iv wr => ∃ (i p : Nat), i ≤ len ∧ iv = .int .i64 (i : Int) ∧ Both w wr s p)
    (fun iv _ => len - (intOf iv).toNat)
  case atStart => exact ⟨0, 0, Nat.zero_le _, rfl, hb⟩
  case round =>
    obtain ⟨i, p, hil, rfl, hbr⟩ := hrel
    clear hb
    by_cases hlt : i < len
    · have hlt' : (i : Int) < (len : Int) := by omega
      rcases (hI.below hbr.k).at' with h0 | ⟨b, off, rfl, hbB, hit⟩
      · omega
      have hx := hit i hlt
      have c0 := hx.c0
      have c1 := hx.c1
      have hpl := pickN_lo (I i).kind (n := 4) (by omega)
      have hph := pickN_hi (I i).kind (n := 4) (by omega)
      rcases (show pickN (I i).kind 4 = 0 ∨ pickN (I i).kind 4 = 1 ∨ pickN (I i).kind 4 = 2 ∨ pickN (I i).kind 4 = 3 by omega) with hpk | hpk | hpk | hpk
      all_goals clear hpl hph
      · have hp := fun W => pick_any (I i).kind 4 W hx.k0 hx.k1 (by omega) (by omega)
        rw [hpk] at hp
        have HP : Hid _ := hp
        clear hp
        go_wp2_with fail
        refine (HP.out _).mono ?_
        rintro e w' ⟨rfl, hw⟩; replace hw := hw.symm; subst hw
        clear HP hpk
        go_wp2_with fail
        refine (rUint_any _ hbr.r hs).mono ?_
        rintro e w4 ⟨rfl, hr4, hk4⟩
        have hx4 := hbr.x1 hk4
        have c1' := ((hx.below (hk4.from (B := w.heap.size) (by have := hbr.k.size; omega) (by simp)) hbB)).c1
        go_wp2_with fail
        refine (xUint_any _ hx4 hs).mono ?_
        rintro e w5 ⟨rfl, hx5, hk5⟩
        have hb5 := hbr.step hr4 hk4 hx5 hk5
        clear hbr hr4 hk4 hx4 hx5 hk5 c0 c1 c1'
        obtain ⟨q, hq⟩ : ∃ q, q = p + (numAt s p).2.1 := ⟨_, rfl⟩
        rw [← hq] at hb5
        clear hq
        have hle := hb5.r.le
        have d1 := cell_blk hb5.x.blk 1
        simp at d1
        have hq1 : ((q : Int) != (q : Int)) = false := by simp
        have hq2 : ((s.size : Int) - (q : Int) != (s.size : Int) - (q : Int)) = false := by simp
        have hq3 : IntKind.i64.wrap ((s.size : Int) - (q : Int)) = (s.size : Int) - (q : Int) := by rw [IntKind.wrap_i64]; omega
        go_wp2
        go_quiet ((first | (go_at_call 26; exact Calls.quiet_of_same (At_any _ (hb5.r.drewN _))) | (go_at_call 27; exact Calls.quiet_of (rLeft_any _ (hb5.r.drewN _) hs))))
        go_wp2
        go_roundw
        case rel => exact ⟨i + 1, q, by omega, by go_num, ⟨hb5.r.drewN _, XRd.drewN hb5.x _, below_drewN hb5.k _⟩⟩
        case measure => simp [intOf]; omega
      · have hp := fun W => pick_any (I i).kind 4 W hx.k0 hx.k1 (by omega) (by omega)
        rw [hpk] at hp
        have HP : Hid _ := hp
        clear hp
        go_wp2_with fail
        refine (HP.out _).mono ?_
        rintro e w' ⟨rfl, hw⟩; replace hw := hw.symm; subst hw
        clear HP hpk
        go_wp2_with fail
        refine (rInt_any _ hbr.r hs).mono ?_
        rintro e w4 ⟨rfl, hr4, hk4⟩
        have hx4 := hbr.x1 hk4
        have c1' := ((hx.below (hk4.from (B := w.heap.size) (by have := hbr.k.size; omega) (by simp)) hbB)).c1
        go_wp2_with fail
        refine (xInt_any _ hx4 hs).mono ?_
        rintro e w5 ⟨rfl, hx5, hk5⟩
        have hb5 := hbr.step hr4 hk4 hx5 hk5
        clear hbr hr4 hk4 hx4 hx5 hk5 c0 c1 c1'
        obtain ⟨q, hq⟩ : ∃ q, q = p + (numAt s p).2.1 := ⟨_, rfl⟩
        rw [← hq] at hb5
        clear hq
        have hle := hb5.r.le
        have d1 := cell_blk hb5.x.blk 1
        simp at d1
        have hq1 : ((q : Int) != (q : Int)) = false := by simp
        have hq2 : ((s.size : Int) - (q : Int) != (s.size : Int) - (q : Int)) = false := by simp
        have hq3 : IntKind.i64.wrap ((s.size : Int) - (q : Int)) = (s.size : Int) - (q : Int) := by rw [IntKind.wrap_i64]; omega
        go_wp2
        go_quiet ((first | (go_at_call 26; exact Calls.quiet_of_same (At_any _ (hb5.r.drewN _))) | (go_at_call 27; exact Calls.quiet_of (rLeft_any _ (hb5.r.drewN _) hs))))
        go_wp2
        go_roundw
        case rel => exact ⟨i + 1, q, by omega, by go_num, ⟨hb5.r.drewN _, XRd.drewN hb5.x _, below_drewN hb5.k _⟩⟩
        case measure => simp [intOf]; omega
      · have hp := fun W => pick_any (I i).kind 4 W hx.k0 hx.k1 (by omega) (by omega)
        rw [hpk] at hp
        have HP : Hid _ := hp
        clear hp
        go_wp2_with fail
        refine (HP.out _).mono ?_
        rintro e w' ⟨rfl, hw⟩; replace hw := hw.symm; subst hw
        clear HP hpk
        go_wp2_with fail
        refine (rFixedZ _ hbr.r hs).mono ?_
        rintro e w4 ⟨rfl, hr4, hk4⟩
        have hx4 := hbr.x1 hk4
        have c1' := ((hx.below (hk4.from (B := w.heap.size) (by have := hbr.k.size; omega) (by simp)) hbB)).c1
        go_wp2_with fail
        refine (xFixedZ _ hx4 hs).mono ?_
        rintro e w5 ⟨rfl, hx5, hk5⟩
        have hb5 := hbr.step hr4 hk4 hx5 hk5
        clear hbr hr4 hk4 hx4 hx5 hk5 c0 c1 c1'
        obtain ⟨q, hq⟩ : ∃ q, q = p + (fixZ s p (I i).n).2.1 := ⟨_, rfl⟩
        rw [← hq] at hb5
        clear hq
        have hle := hb5.r.le
        have d1 := cell_blk hb5.x.blk 1
        simp at d1
        have hq1 : ((q : Int) != (q : Int)) = false := by simp
        have hq2 : ((s.size : Int) - (q : Int) != (s.size : Int) - (q : Int)) = false := by simp
        have hq3 : IntKind.i64.wrap ((s.size : Int) - (q : Int)) = (s.size : Int) - (q : Int) := by rw [IntKind.wrap_i64]; omega
        go_wp2
        go_quiet ((first | (go_at_call 26; exact Calls.quiet_of_same (At_any _ (hb5.r.drewN _))) | (go_at_call 27; exact Calls.quiet_of (rLeft_any _ (hb5.r.drewN _) hs))))
        go_wp2
        go_roundw
        case rel => exact ⟨i + 1, q, by omega, by go_num, ⟨hb5.r.drewN _, XRd.drewN hb5.x _, below_drewN hb5.k _⟩⟩
        case measure => simp [intOf]; omega
      · have hp := fun W => pick_any (I i).kind 4 W hx.k0 hx.k1 (by omega) (by omega)
        rw [hpk] at hp
        have HP : Hid _ := hp
        clear hp
        go_wp2_with fail
        refine (HP.out _).mono ?_
        rintro e w' ⟨rfl, hw⟩; replace hw := hw.symm; subst hw
        clear HP hpk
        go_wp2_with fail
        refine (rTextZ _ hbr.r hs hx.n1).mono ?_
        rintro e w4 ⟨rfl, hr4, hk4⟩
        have hx4 := hbr.x1 hk4
        have c1' := ((hx.below (hk4.from (B := w.heap.size) (by have := hbr.k.size; omega) (by simp)) hbB)).c1
        go_wp2_with fail
        refine (xTextZ _ hx4 hs hx.n1).mono ?_
        rintro e w5 ⟨rfl, hx5, hk5⟩
        have hb5 := hbr.step hr4 hk4 hx5 hk5
        clear hbr hr4 hk4 hx4 hx5 hk5 c0 c1 c1'
        obtain ⟨q, hq⟩ : ∃ q, q = p + (textZ s p (I i).n).2.1 := ⟨_, rfl⟩
        rw [← hq] at hb5
        clear hq
        have hle := hb5.r.le
        have d1 := cell_blk hb5.x.blk 1
        simp at d1
        have hq1 : ((q : Int) != (q : Int)) = false := by simp
        have hq2 : ((s.size : Int) - (q : Int) != (s.size : Int) - (q : Int)) = false := by simp
        have hq3 : IntKind.i64.wrap ((s.size : Int) - (q : Int)) = (s.size : Int) - (q : Int) := by rw [IntKind.wrap_i64]; omega
        go_wp2
        go_quiet ((first | (go_at_call 26; exact Calls.quiet_of_same (At_any _ (hb5.r.drewN _))) | (go_at_call 27; exact Calls.quiet_of (rLeft_any _ (hb5.r.drewN _) hs))))
        go_wp2
        go_roundw
        case rel => exact ⟨i + 1, q, by omega, by go_num, ⟨hb5.r.drewN _, XRd.drewN hb5.x _, below_drewN hb5.k _⟩⟩
        case measure => simp [intOf]; omega
    · go_wp2
      go_ret
      exact ⟨rfl, hbr.k⟩

end Go.Proofs.Ytfbfdfenfcjolaa.codecReads
