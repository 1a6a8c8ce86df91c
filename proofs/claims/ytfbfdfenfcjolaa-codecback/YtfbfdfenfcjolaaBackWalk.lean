/-
  The walk of the statement sextantlaw01.CodecBack: whatever is put, it answers true, and what was there is as it was.
-/
import Derived.Test.YtfbfdfenfcjolaaRows
import Derived.Test.YtfbfdfenfcjolaaItems
import Derived.Test.YtfbfdfenfcjolaaFrame
namespace Go.Proofs.Ytfbfdfenfcjolaa.codecBack
open Go.RowKit

set_option maxHeartbeats 4000000 in
set_option maxRecDepth 100000 in
theorem walk_nat (ao : Option Addr) (len cap : Nat) (I : Nat → Item) (w : World) (hI : ItemsAt w w.heap.size ao len I) :
    Calls Try.prog 6 #[.slice ao len cap] w fun e w' => e = .returned (.bool true) ∧ Below w.heap.size w w' := by
  have hlim := hI.lim
  go_enter Try.func6, Try.ntmps6
  go_wp2_with fail
  refine (New_any _ _).mono ?_
  rw [show roomOf 16777216 = 16777216 from rfl]
  rintro e w1 ⟨rfl, hw1⟩
  have hb1 := buf_new w 16777216
  rw [show roomOf 16777216 = 16777216 from rfl, ← hw1] at hb1
  have hk1 : Below w.heap.size w w1 := by rw [hw1]; exact (Below.refl _ _).alloc (Nat.le_refl _) _
  clear hw1
  go_wp2_with fail
  refine (known_any _).mono ?_
  rintro e w2 ⟨rfl, hk⟩
  have hb2 := hb1.kept hk (by simp) (by simp)
  have hk2 := hk1.trans (hk.from (B := w.heap.size) (by have := hk1.size; omega) (by simp))
  clear hk hb1 hk1
  go_wp2
  go_loopw [4, 5] (fun iv _ wr => ∃ (i : Nat) (ab : Option Addr) (cb : Nat), i ≤ len ∧ iv = .int .i64 (i : Int) ∧ BufIs 70 wr w.heap.size ab cb (allBytes I i) 16777216 ∧ Below w.heap.size w wr)
    (fun iv _ _ => len - (intOf iv).toNat)
  case atStart => exact ⟨0, _, _, Nat.zero_le _, rfl, hb2, hk2⟩
  case round =>
    obtain ⟨i, ab, cb, hil, rfl, hbr, hkr⟩ := hrel
    by_cases hlt : i < len
    · have hlt' : (i : Int) < (len : Int) := by omega
      rcases (hI.below hkr).at' with h0 | ⟨b, off, rfl, hbB, hit⟩
      · omega
      have hx := hit i hlt
      have c0 := hx.c0
      have c1 := hx.c1
      have c3 := hx.c3
      have hpl := pickN_lo (I i).kind (n := 4) (by omega)
      have hph := pickN_hi (I i).kind (n := 4) (by omega)
      rcases (show pickN (I i).kind 4 = 0 ∨ pickN (I i).kind 4 = 1 ∨ pickN (I i).kind 4 = 2 ∨ pickN (I i).kind 4 = 3 by omega) with hpk | hpk | hpk | hpk
      all_goals clear hpl hph
      · have hp := fun W => pick_any (I i).kind 4 W hx.ok.k0 hx.ok.k1 (by omega) (by omega)
        rw [hpk] at hp
        have HP : Hid _ := hp
        clear hp
        go_wp2_with fail
        refine (HP.out _).mono ?_
        rintro e w' ⟨rfl, hw⟩; replace hw := hw.symm; subst hw
        clear HP
        go_wp2_with fail
        refine (put_kind0 _ hbr (I i) hx.ok hpk).mono ?_
        unfold PutOk
        by_cases hfit : (itemBytes (I i)).length ≤ 16777216 - (allBytes I i).length
        · rw [show putCode 16777216 (allBytes I i) (itemBytes (I i)) = 0 from if_pos hfit]
          rintro e w4 ⟨rfl, hp⟩
          obtain ⟨hk4, ab4, cb4, hb4⟩ := hp.below hbr (Nat.le_refl _)
          rw [show after 16777216 (allBytes I i) (itemBytes (I i)) = allBytes I i ++ itemBytes (I i) from if_pos hfit, ← allBytes_succ] at hb4
          replace hk4 := hkr.trans hk4
          clear hp hbr hkr hfit hpk c0 c1 c3
          go_wp2
          go_roundw
          case rel => exact ⟨i + 1, _, _, by omega, by go_num, hb4, hk4⟩
          case measure => simp [intOf]; omega
        · rw [show putCode 16777216 (allBytes I i) (itemBytes (I i)) = 12 from if_neg hfit]
          rintro e w4 ⟨rfl, hp⟩
          obtain ⟨hk4, ab4, cb4, hb4⟩ := hp.below hbr (Nat.le_refl _)
          rw [show after 16777216 (allBytes I i) (itemBytes (I i)) = allBytes I i from if_neg hfit] at hb4
          have c3' := (hx.below hk4 hbB).c3
          replace hk4 := hkr.trans hk4
          have hle := itemBytes_le hx.ok
          have ht := hx.ok.t1
          have hbl := hb4.le
          have hle' : (16777216 : Int) - ((allBytes I i).length : Int) < ((I i).text.size : Int) + 11 := by omega
          clear hp hbr hkr hpk c0 c1 c3 hle hfit
          go_wp2
          go_quiet ((go_at_call 15; exact Calls.quiet_of (Left_any _ (hb4.drewN _))))
          go_wp2
          go_ret
          exact ⟨rfl, below_drewN hk4 _⟩
      · have hp := fun W => pick_any (I i).kind 4 W hx.ok.k0 hx.ok.k1 (by omega) (by omega)
        rw [hpk] at hp
        have HP : Hid _ := hp
        clear hp
        go_wp2_with fail
        refine (HP.out _).mono ?_
        rintro e w' ⟨rfl, hw⟩; replace hw := hw.symm; subst hw
        clear HP
        go_wp2_with fail
        refine (put_kind1 _ hbr (I i) hpk).mono ?_
        unfold PutOk
        by_cases hfit : (itemBytes (I i)).length ≤ 16777216 - (allBytes I i).length
        · rw [show putCode 16777216 (allBytes I i) (itemBytes (I i)) = 0 from if_pos hfit]
          rintro e w4 ⟨rfl, hp⟩
          obtain ⟨hk4, ab4, cb4, hb4⟩ := hp.below hbr (Nat.le_refl _)
          rw [show after 16777216 (allBytes I i) (itemBytes (I i)) = allBytes I i ++ itemBytes (I i) from if_pos hfit, ← allBytes_succ] at hb4
          replace hk4 := hkr.trans hk4
          clear hp hbr hkr hfit hpk c0 c1 c3
          go_wp2
          go_roundw
          case rel => exact ⟨i + 1, _, _, by omega, by go_num, hb4, hk4⟩
          case measure => simp [intOf]; omega
        · rw [show putCode 16777216 (allBytes I i) (itemBytes (I i)) = 12 from if_neg hfit]
          rintro e w4 ⟨rfl, hp⟩
          obtain ⟨hk4, ab4, cb4, hb4⟩ := hp.below hbr (Nat.le_refl _)
          rw [show after 16777216 (allBytes I i) (itemBytes (I i)) = allBytes I i from if_neg hfit] at hb4
          have c3' := (hx.below hk4 hbB).c3
          replace hk4 := hkr.trans hk4
          have hle := itemBytes_le hx.ok
          have ht := hx.ok.t1
          have hbl := hb4.le
          have hle' : (16777216 : Int) - ((allBytes I i).length : Int) < ((I i).text.size : Int) + 11 := by omega
          clear hp hbr hkr hpk c0 c1 c3 hle hfit
          go_wp2
          go_quiet ((go_at_call 15; exact Calls.quiet_of (Left_any _ (hb4.drewN _))))
          go_wp2
          go_ret
          exact ⟨rfl, below_drewN hk4 _⟩
      · have hp := fun W => pick_any (I i).kind 4 W hx.ok.k0 hx.ok.k1 (by omega) (by omega)
        rw [hpk] at hp
        have HP : Hid _ := hp
        clear hp
        go_wp2_with fail
        refine (HP.out _).mono ?_
        rintro e w' ⟨rfl, hw⟩; replace hw := hw.symm; subst hw
        clear HP
        go_wp2_with fail
        refine (put_kind2 _ hbr (I i) hx.ok hpk).mono ?_
        unfold PutOk
        by_cases hfit : (itemBytes (I i)).length ≤ 16777216 - (allBytes I i).length
        · rw [show putCode 16777216 (allBytes I i) (itemBytes (I i)) = 0 from if_pos hfit]
          rintro e w4 ⟨rfl, hp⟩
          obtain ⟨hk4, ab4, cb4, hb4⟩ := hp.below hbr (Nat.le_refl _)
          rw [show after 16777216 (allBytes I i) (itemBytes (I i)) = allBytes I i ++ itemBytes (I i) from if_pos hfit, ← allBytes_succ] at hb4
          replace hk4 := hkr.trans hk4
          clear hp hbr hkr hfit hpk c0 c1 c3
          go_wp2
          go_roundw
          case rel => exact ⟨i + 1, _, _, by omega, by go_num, hb4, hk4⟩
          case measure => simp [intOf]; omega
        · rw [show putCode 16777216 (allBytes I i) (itemBytes (I i)) = 12 from if_neg hfit]
          rintro e w4 ⟨rfl, hp⟩
          obtain ⟨hk4, ab4, cb4, hb4⟩ := hp.below hbr (Nat.le_refl _)
          rw [show after 16777216 (allBytes I i) (itemBytes (I i)) = allBytes I i from if_neg hfit] at hb4
          have c3' := (hx.below hk4 hbB).c3
          replace hk4 := hkr.trans hk4
          have hle := itemBytes_le hx.ok
          have ht := hx.ok.t1
          have hbl := hb4.le
          have hle' : (16777216 : Int) - ((allBytes I i).length : Int) < ((I i).text.size : Int) + 11 := by omega
          clear hp hbr hkr hpk c0 c1 c3 hle hfit
          go_wp2
          go_quiet ((go_at_call 15; exact Calls.quiet_of (Left_any _ (hb4.drewN _))))
          go_wp2
          go_ret
          exact ⟨rfl, below_drewN hk4 _⟩
      · have hp := fun W => pick_any (I i).kind 4 W hx.ok.k0 hx.ok.k1 (by omega) (by omega)
        rw [hpk] at hp
        have HP : Hid _ := hp
        clear hp
        go_wp2_with fail
        refine (HP.out _).mono ?_
        rintro e w' ⟨rfl, hw⟩; replace hw := hw.symm; subst hw
        clear HP
        go_wp2_with fail
        refine (put_kind3 _ hbr (I i) hx.ok hpk).mono ?_
        unfold PutOk
        by_cases hfit : (itemBytes (I i)).length ≤ 16777216 - (allBytes I i).length
        · rw [show putCode 16777216 (allBytes I i) (itemBytes (I i)) = 0 from if_pos hfit]
          rintro e w4 ⟨rfl, hp⟩
          obtain ⟨hk4, ab4, cb4, hb4⟩ := hp.below hbr (Nat.le_refl _)
          rw [show after 16777216 (allBytes I i) (itemBytes (I i)) = allBytes I i ++ itemBytes (I i) from if_pos hfit, ← allBytes_succ] at hb4
          replace hk4 := hkr.trans hk4
          clear hp hbr hkr hfit hpk c0 c1 c3
          go_wp2
          go_roundw
          case rel => exact ⟨i + 1, _, _, by omega, by go_num, hb4, hk4⟩
          case measure => simp [intOf]; omega
        · rw [show putCode 16777216 (allBytes I i) (itemBytes (I i)) = 12 from if_neg hfit]
          rintro e w4 ⟨rfl, hp⟩
          obtain ⟨hk4, ab4, cb4, hb4⟩ := hp.below hbr (Nat.le_refl _)
          rw [show after 16777216 (allBytes I i) (itemBytes (I i)) = allBytes I i from if_neg hfit] at hb4
          have c3' := (hx.below hk4 hbB).c3
          replace hk4 := hkr.trans hk4
          have hle := itemBytes_le hx.ok
          have ht := hx.ok.t1
          have hbl := hb4.le
          have hle' : (16777216 : Int) - ((allBytes I i).length : Int) < ((I i).text.size : Int) + 11 := by omega
          clear hp hbr hkr hpk c0 c1 c3 hle hfit
          go_wp2
          go_quiet ((go_at_call 15; exact Calls.quiet_of (Left_any _ (hb4.drewN _))))
          go_wp2
          go_ret
          exact ⟨rfl, below_drewN hk4 _⟩
    · obtain rfl : i = len := by omega
      go_wp2_with fail
      refine (String_any _ hbr).mono ?_
      rw [show (⟨(allBytes I i).toArray⟩ : ByteArray) = whole I i from rfl]
      rintro e w' ⟨rfl, hw⟩; replace hw := hw.symm; subst hw
      go_wp2_with fail
      refine (Read_any (whole I i) _).mono ?_
      rintro e w5 ⟨rfl, hw5⟩
      have hlb := hbr.lt
      have hr5 := rd_new wr (whole I i)
      have hb5 := hbr.kept (Kept.alloc [] wr (.cells #[.string (whole I i), .int .i64 0] 76)) (by simp) (by simp)
      have hal := fun a ha => (hbr.row_lt a ha).2
      have hk5 : Below w.heap.size w w5 := by rw [hw5]; exact hkr.alloc (by omega) _
      rw [← hw5] at hr5 hb5
      have hall := hbr.le
      clear hw5 hbr hkr hb2 hk2
      obtain ⟨rb, hrb⟩ : ∃ rb, wr.heap.size = rb := ⟨_, rfl⟩
      rw [hrb] at hr5 hlb hal ⊢
      have hsz : (whole I i).size ≤ 140737488355328 := by rw [whole_size]; omega
      clear hrb
      go_wp2
      go_loopw [7] (fun iv wq => ∃ (j : Nat), j ≤ i ∧ iv = .int .i64 (j : Int) ∧ BufIs 70 wq w.heap.size ab cb (allBytes I i) 16777216 ∧ RdIs 76 wq rb (whole I i) (allBytes I j).length ∧ Below w.heap.size w wq)
        (fun iv _ => i - (intOf iv).toNat)
      case atStart => exact ⟨0, Nat.zero_le _, rfl, hb5, hr5, hk5⟩
      case round =>
        obtain ⟨j, hjl, rfl, hbj, hrj, hkj⟩ := hrel
        clear hb5 hr5 hk5
        by_cases hlt : j < i
        · have hlt' : (j : Int) < (i : Int) := by omega
          rcases (hI.below hkj).at' with h0 | ⟨b, off, rfl, hbB, hit⟩
          · omega
          have hx := hit j hlt
          have c0 := hx.c0
          have c1 := hx.c1
          have c3 := hx.c3
          have hpl := pickN_lo (I j).kind (n := 4) (by omega)
          have hph := pickN_hi (I j).kind (n := 4) (by omega)
          rcases (show pickN (I j).kind 4 = 0 ∨ pickN (I j).kind 4 = 1 ∨ pickN (I j).kind 4 = 2 ∨ pickN (I j).kind 4 = 3 by omega) with hpk | hpk | hpk | hpk
          all_goals clear hpl hph
          · have hp := fun W => pick_any (I j).kind 4 W hx.ok.k0 hx.ok.k1 (by omega) (by omega)
            rw [hpk] at hp
            have HP : Hid _ := hp
            clear hp
            have HR : Hid _ := read_kind0 I hlt hx.ok hpk
            go_wp2_with fail
            refine (HP.out _).mono ?_
            rintro e w' ⟨rfl, hw⟩; replace hw := hw.symm; subst hw
            clear HP
            go_wp2_with fail
            refine (rUint_any _ hrj hsz).mono ?_
            rw [HR.out]
            rintro e w6 ⟨rfl, hr6, hk⟩
            have hb6 := hbj.reads hk hlb hal
            have hk6 := hk.from (B := w.heap.size) (by have := hkj.size; omega) (by simp; omega)
            have c1' := (hx.below hk6 hbB).c1
            have c3' := (hx.below hk6 hbB).c3
            replace hk6 := hkj.trans hk6
            clear hk hbj hrj hkj HR hpk c0 c1 c3
            go_wp2
            go_roundw
            case rel => exact ⟨j + 1, by omega, by go_num, hb6, by rw [allBytes_succ, List.length_append]; exact hr6, hk6⟩
            case measure => simp [intOf]; omega
          · have hp := fun W => pick_any (I j).kind 4 W hx.ok.k0 hx.ok.k1 (by omega) (by omega)
            rw [hpk] at hp
            have HP : Hid _ := hp
            clear hp
            have HR : Hid _ := read_kind1 I hlt hpk
            go_wp2_with fail
            refine (HP.out _).mono ?_
            rintro e w' ⟨rfl, hw⟩; replace hw := hw.symm; subst hw
            clear HP
            go_wp2_with fail
            refine (rInt_any _ hrj hsz).mono ?_
            rw [HR.out, unfold_fold]
            rintro e w6 ⟨rfl, hr6, hk⟩
            have hb6 := hbj.reads hk hlb hal
            have hk6 := hk.from (B := w.heap.size) (by have := hkj.size; omega) (by simp; omega)
            have c1' := (hx.below hk6 hbB).c1
            have c3' := (hx.below hk6 hbB).c3
            replace hk6 := hkj.trans hk6
            clear hk hbj hrj hkj HR hpk c0 c1 c3
            go_wp2
            go_roundw
            case rel => exact ⟨j + 1, by omega, by go_num, hb6, by rw [allBytes_succ, List.length_append]; exact hr6, hk6⟩
            case measure => simp [intOf]; omega
          · have hp := fun W => pick_any (I j).kind 4 W hx.ok.k0 hx.ok.k1 (by omega) (by omega)
            rw [hpk] at hp
            have HP : Hid _ := hp
            clear hp
            have HR : Hid _ := read_kind2 I hlt hx.ok hpk
            go_wp2_with fail
            refine (HP.out _).mono ?_
            rintro e w' ⟨rfl, hw⟩; replace hw := hw.symm; subst hw
            clear HP
            go_wp2_with fail
            refine (rFixed_yes (k := 8) _ hrj hsz (by decide) (by decide) HR.out.2.2).mono ?_
            rw [HR.out.1, ← HR.out.2.1]
            rintro e w6 ⟨rfl, hr6, hk⟩
            have hb6 := hbj.reads hk hlb hal
            have hk6 := hk.from (B := w.heap.size) (by have := hkj.size; omega) (by simp; omega)
            have c1' := (hx.below hk6 hbB).c1
            have c3' := (hx.below hk6 hbB).c3
            replace hk6 := hkj.trans hk6
            clear hk hbj hrj hkj HR hpk c0 c1 c3
            go_wp2
            go_roundw
            case rel => exact ⟨j + 1, by omega, by go_num, hb6, by rw [allBytes_succ, List.length_append]; exact hr6, hk6⟩
            case measure => simp [intOf]; omega
          · have hp := fun W => pick_any (I j).kind 4 W hx.ok.k0 hx.ok.k1 (by omega) (by omega)
            rw [hpk] at hp
            have HP : Hid _ := hp
            clear hp
            have HR : Hid _ := read_kind3 I hlt hx.ok hpk
            go_wp2_with fail
            refine (HP.out _).mono ?_
            rintro e w' ⟨rfl, hw⟩; replace hw := hw.symm; subst hw
            clear HP
            go_wp2_with fail
            refine (rText_any (most := (I j).text.size) _ hrj hsz (by have := hx.ok.t1; omega)).mono ?_
            rw [HR.out]
            rintro e w6 ⟨rfl, hr6, hk⟩
            have hb6 := hbj.reads hk hlb hal
            have hk6 := hk.from (B := w.heap.size) (by have := hkj.size; omega) (by simp; omega)
            have c1' := (hx.below hk6 hbB).c1
            have c3' := (hx.below hk6 hbB).c3
            replace hk6 := hkj.trans hk6
            clear hk hbj hrj hkj HR hpk c0 c1 c3
            go_wp2
            go_roundw
            case rel => exact ⟨j + 1, by omega, by go_num, hb6, by rw [allBytes_succ, List.length_append]; exact hr6, hk6⟩
            case measure => simp [intOf]; omega
        · obtain rfl : j = i := by omega
          go_wp2_with fail
          refine (rLeft_any _ hrj hsz).mono ?_
          rw [whole_size, Int.sub_self]
          rintro e w' ⟨rfl, q, rfl⟩
          go_wp2_with fail
          refine (At_any _ (hrj.drewN q)).mono ?_
          rintro e w' ⟨rfl, hw⟩; replace hw := hw.symm; subst hw
          go_wp2_with fail
          refine (Len_any _ (hbj.drewN q)).mono ?_
          rintro e w' ⟨rfl, hw⟩; replace hw := hw.symm; subst hw
          go_wp2
          go_ret
          exact ⟨rfl, below_drewN hkj q⟩

end Go.Proofs.Ytfbfdfenfcjolaa.codecBack
