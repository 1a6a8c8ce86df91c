/-
  PROVED HERE: whatever the number and the room, the statement sextantlaw01.CodecLengths (a number has a byte for each seven of its binary digits; what has no room changes nothing, and what is smaller may still be put) answers true and leaves its arguments as they were. No condition.
-/
import Derived.Test.YtfbfdfenfcjolabRows
import Derived.Test.YtfbfdfenfcjolabPick
import Derived.Test.YtfbfdfenfcjolabFrame
import Derived.WalkKit
import Derived.ProofKit
import Derived.OpenShut
import Derived.ShutString
namespace Go.Proofs.Ytfbfdfenfcjolab.codecLengths
open Go.ChangeShapes Go.WideShapes Go.ChangeAt Go.RowKit
open Go.ChangeMaps (open_string shut_string)
set_option linter.unusedVariables false

theorem own : ownKnob Try.prog.godebug = none := by kernel_rfl

/-- How many bytes are still to be counted. -/
def lenR (x : Nat) : Nat := if x = 0 then 0 else (encU x).length
theorem lenR_start (n : Nat) : (encU n).length = 1 + lenR (n / 128) := by
  unfold lenR
  by_cases h : n < 128
  · rw [encU_small h, if_pos (by omega)]; rfl
  · rw [encU_big h, if_neg (by omega), List.length_cons]; omega
theorem lenR_step {x : Nat} (h : 0 < x) : lenR x = 1 + lenR (x / 128) := by
  rw [show lenR x = (encU x).length from if_neg (by omega)]
  exact lenR_start x

/-- Behind the two makings: two buffers, and what is kept. -/
structure Two (w W : World) (r : Nat) : Prop where
  b : BufIs 58 W w.heap.size none 0 [] r
  c : BufIs 58 W (w.heap.size + 1) none 0 [] 20
  k : Below w.heap.size w W

theorem two_new (w : World) (r : Nat) (hr : r ≤ 10) : Two w ((w.alloc (.cells #[.slice none 0 0, .int .i64 ((r : Nat) : Int)] 58)).alloc (.cells #[.slice none 0 0, .int .i64 20] 58)) r := by
  have e1 : roomOf (r : Int) = r := by unfold roomOf; omega
  have h1 := buf_new w r
  rw [e1] at h1
  have h2 := buf_new (w.alloc (.cells #[.slice none 0 0, .int .i64 ((r : Nat) : Int)] 58)) 20
  rw [show roomOf 20 = 20 from rfl] at h2
  refine ⟨h1.kept (Kept.alloc [] _ _) (by simp) (by simp), ?_, (((Below.refl _ w).alloc (Nat.le_refl _) _).alloc (by simp) _)⟩
  have e2 : (w.alloc (.cells #[.slice none 0 0, .int .i64 ((r : Nat) : Int)] 58)).heap.size = w.heap.size + 1 := by simp
  rw [e2] at h2
  exact h2

theorem Two.kept {w W W' : World} {r : Nat} (h : Two w W r) (hk : Kept [] W W') : Two w W' r :=
  ⟨h.b.kept hk (by simp) (by simp), h.c.kept hk (by simp) (by simp), h.k.trans (hk.from (by have := h.k.size; omega) (by simp))⟩

/-- What is left when b has been put into: c is as it was. -/
theorem Two.put {w W W' : World} {r : Nat} (h : Two w W r) {ds : List UInt8} (hp : PutsTo W W' w.heap.size none [] ds r) :
    ∃ ao cap, BufIs 58 W' w.heap.size ao cap (after r [] ds) r ∧ (∀ a, ao = some a → w.heap.size + 1 < a.block) ∧ BufIs 58 W' (w.heap.size + 1) none 0 [] 20 ∧ Below w.heap.size w W' := by
  have hB := (hp.below h.b (Nat.le_refl _)).1
  have hcl := h.c.lt
  obtain ⟨ao, cap, hb, hk, hm⟩ := hp
  refine ⟨ao, cap, hb, ?_, h.c.kept hk (by simp [rowOf]) (by simp), h.k.trans hB⟩
  intro a ha
  rcases hm with e | e
  · rw [ha] at e; cases e
  · have := e a ha; omega

theorem put_again {w W W' : World} {r : Nat} {ao : Option Addr} {cap : Nat} {bs ds : List UInt8} (hb : BufIs 58 W w.heap.size ao cap bs r) (ha : ∀ a, ao = some a → w.heap.size + 1 < a.block) (hc : BufIs 58 W (w.heap.size + 1) none 0 [] 20)
    (hk : Below w.heap.size w W) (hp : PutsTo W W' w.heap.size ao bs ds r) : BufIs 58 W' (w.heap.size + 1) none 0 [] 20 ∧ Below w.heap.size w W' := by
  have hB := (hp.below hb (Nat.le_refl _)).1
  obtain ⟨ao', cap', _, hk', _⟩ := hp
  refine ⟨hc.kept hk' ?_ (by simp), hk.trans hB⟩
  simp only [List.mem_cons, not_or]
  refine ⟨by omega, fun hx => ?_⟩
  obtain ⟨a, h1, h2⟩ := rowOf_mem hx
  have := ha a h1
  omega

theorem enc_fit20 {n : Nat} (h : (n : Int) < 18446744073709551616) : putCode 20 [] (encU n) = 0 ∧ after 20 [] (encU n) = encU n := by
  have h10 : (encU n).length ≤ 10 := encU_ten (by omega)
  have hl : (encU n).length ≤ 20 - ([] : List UInt8).length := by simp; omega
  exact ⟨if_pos hl, by rw [show after 20 [] (encU n) = [] ++ encU n from if_pos hl]; rfl⟩

theorem fold_quarter (n : Nat) : foldN ((n : Int) / 4) = n / 4 * 2 := by unfold foldN; rw [if_neg (by omega)]; omega

theorem third_new {w W W' : World} {ao : Option Addr} {cap : Nat} {bs : List UInt8} (h : BufIs 58 W (w.heap.size + 1) ao cap bs 20) (hk : Below w.heap.size w W) (hw : W' = W.alloc (.cells #[.slice none 0 0, .int .i64 ((20 : Nat) : Int)] 58)) :
    BufIs 58 W' (w.heap.size + 1) ao cap bs 20 ∧ BufIs 58 W' W.heap.size none 0 [] 20 ∧ Below w.heap.size w W' ∧ (w.heap.size + 1 < W.heap.size ∧ ∀ a, ao = some a → a.block < W.heap.size) ∧ w.heap.size ≤ W.heap.size := by
  subst hw
  have hlt := h.lt
  exact ⟨h.kept (Kept.alloc [] _ _) (by simp) (by simp), buf_new W 20, hk.alloc (by omega) _, ⟨hlt, fun a ha => (h.row_lt a ha).2⟩, by omega⟩

theorem third_keeps {w W W' : World} {ao : Option Addr} {cap g : Nat} {bs ds : List UInt8} (h : BufIs 58 W (w.heap.size + 1) ao cap bs 20) (hlt : w.heap.size + 1 < g ∧ ∀ a, ao = some a → a.block < g) (hp : PutsTo W W' g none [] ds 20) : BufIs 58 W' (w.heap.size + 1) ao cap bs 20 := by
  obtain ⟨_, _, _, hk, _⟩ := hp
  exact h.kept hk (by simp [rowOf]; omega) (fun a ha => by have := hlt.2 a ha; simp [rowOf]; omega)

set_option maxHeartbeats 4000000 in
theorem walk_nat (n r : Nat) (room : Int) (hn : (n : Int) < 18446744073709551616) (h0 : -9223372036854775808 ≤ room) (h1 : room ≤ 9223372036854775807) (hr : pickN room 11 = (r : Int)) (hr10 : (r : Int) ≤ 10) (w : World) :
    Calls Try.prog 4 #[.int .u64 (n : Int), .int .i64 room] w fun e w' => e = .returned (.bool true) ∧ Below w.heap.size w w' := by
  have hp := fun W => pick_any room 11 W h0 h1 (by omega) (by omega)
  rw [hr] at hp
  have HP : Hid _ := hp
  clear hp hr
  have hten : (encU n).length ≤ 10 := encU_ten (by omega)
  have hpos := encU_pos n
  go_enter Try.func4, Try.ntmps4
  go_wp2_with fail
  refine (HP.out _).mono ?_
  rintro e w' ⟨rfl, hw⟩; replace hw := hw.symm; subst hw
  go_wp2_with fail
  refine (New_any _ _).mono ?_
  rw [show roomOf (r : Int) = r by unfold roomOf; omega]
  rintro e w' ⟨rfl, rfl⟩
  go_wp2_with fail
  refine (New_any _ _).mono ?_
  rw [show roomOf 20 = 20 from rfl]
  rintro e w2 ⟨rfl, hw2⟩
  have ht := two_new w r (by omega)
  rw [show (20 : Int) = ((20 : Nat) : Int) from rfl, ← hw2] at ht
  clear hw2
  go_wp2_with fail
  refine (known_any _).mono ?_
  rintro e w3 ⟨rfl, hk⟩
  replace ht := ht.kept hk
  clear hk
  go_wp2
  go_loop [7, 8] (fun av xv => ∃ (want x : Nat), (x : Int) < 18446744073709551616 ∧ want ≤ 10 ∧ Hid ((encU n).length = want + lenR x) ∧ av = .int .i64 (want : Int) ∧ xv = .int .u64 (x : Int))
    (fun _ xv => (intOf xv).toNat)
  case atStart => exact ⟨1, n / 128, by omega, by omega, lenR_start n, rfl, by simp⟩
  case round =>
    obtain ⟨want, x, hx, hw10, HW, rfl, rfl⟩ := hrel
    by_cases hx0 : 0 < x
    · have hx0' : (0 : Int) < (x : Int) := by omega
      have hst := lenR_step hx0
      have HT : Hid ((encU n).length = (want + 1) + lenR (x / 128)) := by have := HW.out; show _ = _; omega
      have hw9 : want + 1 ≤ 10 := by have := HT.out; omega
      clear hst
      go_wp2
      go_round
      case rel => exact ⟨want + 1, x / 128, by omega, hw9, HT, by go_num, by simp⟩
      case measure => simp [intOf]; omega
    · obtain rfl : x = 0 := by omega
      obtain rfl : want = (encU n).length := by have := HW.out; rw [show lenR 0 = 0 from rfl] at this; omega
      clear HW hx hx0
      have HQ : Hid _ := enc_fit20 (n := n / 4 * 2) (by omega)
      have HF : Hid _ := fold_quarter n
      by_cases hfit : (encU n).length ≤ r
      · have hfit' : ((encU n).length : Int) ≤ (r : Int) := by omega
        have HC : Hid (putCode r [] (encU n) = 0) := if_pos (by simpa using hfit)
        have HA : Hid (after r [] (encU n) = encU n) := by
          show _ = _
          rw [show after r [] (encU n) = [] ++ encU n from if_pos (by simpa using hfit)]; rfl
        go_wp2_with fail
        refine (bUint_any n w3 hn ht.b).mono ?_
        rw [HC.out]
        rintro e w4 ⟨rfl, hp⟩
        obtain ⟨ao, cap, hb, hao, hc, hk⟩ := ht.put hp
        rw [HA.out] at hb
        clear hp HC HA ht
        go_wp2_with fail
        refine (HP.out _).mono ?_
        rintro e w' ⟨rfl, hw⟩; replace hw := hw.symm; subst hw
        go_wp2_with fail
        refine (Len_any w4 hb).mono ?_
        rintro e w' ⟨rfl, hw⟩; replace hw := hw.symm; subst hw
        clear hb hao
        go_wp2_with fail
        refine (bInt_any _ w4 (by omega) (by omega) hc).mono ?_
        rw [HF.out, HQ.out.1]
        rintro e w5 ⟨rfl, hp⟩
        obtain ⟨hk5, ao5, cap5, hb5⟩ := hp.below hc (Nat.le_succ _)
        rw [HQ.out.2] at hb5
        replace hk5 := hk.trans hk5
        clear hp hc hk HF
        go_wp2_with fail
        refine (New_any _ _).mono ?_
        rw [show roomOf 20 = 20 from rfl]
        rintro e w6 ⟨rfl, hw6⟩
        obtain ⟨hb6, hg6, hk6, hlt, hlo⟩ := third_new hb5 hk5 hw6
        clear hw6 hb5 hk5
        go_wp2_with fail
        rw [show (n : Int) / 4 * 2 = ((n / 4 * 2 : Nat) : Int) by omega]
        refine (bUint_any _ w6 (by omega) hg6).mono ?_
        rw [HQ.out.1]
        rintro e w7 ⟨rfl, hp⟩
        obtain ⟨hk7, ao7, cap7, hb7⟩ := hp.below hg6 hlo
        rw [HQ.out.2] at hb7
        have hc7 := third_keeps hb6 hlt hp
        replace hk7 := hk6.trans hk7
        clear hp hb6 hg6 hk6 HQ
        go_wp2_with fail
        refine (String_any w7 hc7).mono ?_
        rintro e w' ⟨rfl, hw⟩; replace hw := hw.symm; subst hw
        go_wp2_with fail
        refine (String_any w7 hb7).mono ?_
        rintro e w' ⟨rfl, hw⟩; replace hw := hw.symm; subst hw
        go_wp2
        go_ret
        exact ⟨rfl, hk7⟩
      · have hfit' : (r : Int) < ((encU n).length : Int) := by omega
        have HC : Hid (putCode r [] (encU n) = 12) := if_neg (by simpa using hfit)
        have HA : Hid (after r [] (encU n) = []) := if_neg (by simpa using hfit)
        have hq : ((12 : Int) != 0) = true := rfl
        go_wp2_with fail
        refine (bUint_any n w3 hn ht.b).mono ?_
        rw [HC.out]
        rintro e w4 ⟨rfl, hp⟩
        obtain ⟨ao, cap, hb, hao, hc, hk⟩ := ht.put hp
        rw [HA.out] at hb
        clear hp HC HA ht hq
        go_wp2_with fail
        refine (HP.out _).mono ?_
        rintro e w' ⟨rfl, hw⟩; replace hw := hw.symm; subst hw
        go_wp2_with fail
        refine (Len_any w4 hb).mono ?_
        rintro e w' ⟨rfl, hw⟩; replace hw := hw.symm; subst hw
        go_wp2_with fail
        refine (Left_any w4 hb).mono ?_
        rintro e w' ⟨rfl, j1, rfl⟩
        go_wp2_with fail
        refine (HP.out _).mono ?_
        rintro e w' ⟨rfl, hw⟩; replace hw := hw.symm; subst hw
        go_wp2_with fail
        refine (Left_any (w4.drewN j1) (hb.drewN j1)).mono ?_
        rintro e w' ⟨rfl, j2, rfl⟩
        by_cases hr0 : 0 < r
        · have hr0' : (0 : Int) < (r : Int) := by omega
          have HC : Hid (putCode r [] (encU (n % 128)) = 0) := by
            show _ = _
            rw [encU_small (by omega)]; exact if_pos (by simp; omega)
          go_wp2_with fail
          rw [show (n : Int) % 128 = ((n % 128 : Nat) : Int) by omega]
          refine (bUint_any _ _ (by omega) (hb.drewN (j1 + j2))).mono ?_
          rw [HC.out]
          rintro e w8 ⟨rfl, hp⟩
          obtain ⟨hc8, hk8⟩ := put_again (hb.drewN (j1 + j2)) hao (hc.drewN (j1 + j2)) (below_drewN hk (j1 + j2)) hp
          clear hp hb hao hc hk HC
          have hc := hc8
          have hk := hk8
          clear hc8 hk8
          go_wp2_with fail
          refine (bInt_any _ w8 (by omega) (by omega) hc).mono ?_
          rw [HF.out, HQ.out.1]
          rintro e w5 ⟨rfl, hp⟩
          obtain ⟨hk5, ao5, cap5, hb5⟩ := hp.below hc (Nat.le_succ _)
          rw [HQ.out.2] at hb5
          replace hk5 := hk.trans hk5
          clear hp hc hk HF
          go_wp2_with fail
          refine (New_any _ _).mono ?_
          rw [show roomOf 20 = 20 from rfl]
          rintro e w6 ⟨rfl, hw6⟩
          obtain ⟨hb6, hg6, hk6, hlt, hlo⟩ := third_new hb5 hk5 hw6
          clear hw6 hb5 hk5
          go_wp2_with fail
          rw [show (n : Int) / 4 * 2 = ((n / 4 * 2 : Nat) : Int) by omega]
          refine (bUint_any _ w6 (by omega) hg6).mono ?_
          rw [HQ.out.1]
          rintro e w7 ⟨rfl, hp⟩
          obtain ⟨hk7, ao7, cap7, hb7⟩ := hp.below hg6 hlo
          rw [HQ.out.2] at hb7
          have hc7 := third_keeps hb6 hlt hp
          replace hk7 := hk6.trans hk7
          clear hp hb6 hg6 hk6 HQ
          go_wp2_with fail
          refine (String_any w7 hc7).mono ?_
          rintro e w' ⟨rfl, hw⟩; replace hw := hw.symm; subst hw
          go_wp2_with fail
          refine (String_any w7 hb7).mono ?_
          rintro e w' ⟨rfl, hw⟩; replace hw := hw.symm; subst hw
          go_wp2
          go_ret
          exact ⟨rfl, hk7⟩
        · obtain rfl : r = 0 := by omega
          replace hc := hc.drewN (j1 + j2)
          replace hk := below_drewN hk (j1 + j2)
          clear hb hao
          go_wp2_with fail
          refine (bInt_any _ _ (by omega) (by omega) hc).mono ?_
          rw [HF.out, HQ.out.1]
          rintro e w5 ⟨rfl, hp⟩
          obtain ⟨hk5, ao5, cap5, hb5⟩ := hp.below hc (Nat.le_succ _)
          rw [HQ.out.2] at hb5
          replace hk5 := hk.trans hk5
          clear hp hc hk HF
          go_wp2_with fail
          refine (New_any _ _).mono ?_
          rw [show roomOf 20 = 20 from rfl]
          rintro e w6 ⟨rfl, hw6⟩
          obtain ⟨hb6, hg6, hk6, hlt, hlo⟩ := third_new hb5 hk5 hw6
          clear hw6 hb5 hk5
          go_wp2_with fail
          rw [show (n : Int) / 4 * 2 = ((n / 4 * 2 : Nat) : Int) by omega]
          refine (bUint_any _ w6 (by omega) hg6).mono ?_
          rw [HQ.out.1]
          rintro e w7 ⟨rfl, hp⟩
          obtain ⟨hk7, ao7, cap7, hb7⟩ := hp.below hg6 hlo
          rw [HQ.out.2] at hb7
          have hc7 := third_keeps hb6 hlt hp
          replace hk7 := hk6.trans hk7
          clear hp hb6 hg6 hk6 HQ
          go_wp2_with fail
          refine (String_any w7 hc7).mono ?_
          rintro e w' ⟨rfl, hw⟩; replace hw := hw.symm; subst hw
          go_wp2_with fail
          refine (String_any w7 hb7).mono ?_
          rintro e w' ⟨rfl, hw⟩; replace hw := hw.symm; subst hw
          go_wp2
          go_ret
          exact ⟨rfl, hk7⟩

theorem walk (a0 : Int) (a1 : Int) (w0 : (Lit.int .u64 a0).wf = true) (w1 : (Lit.int .i64 a1).wf = true) (w : World) :
    Calls Try.prog 4 #[.int .u64 a0, .int .i64 a1] w fun e w' => e = .returned (.bool true) ∧ Below w.heap.size w w' := by
  have b0 := bounds_u64 w0
  have b1 := bounds_i64 w1
  obtain ⟨n, rfl⟩ := Int.eq_ofNat_of_zero_le b0.1
  obtain ⟨r, hr⟩ := Int.eq_ofNat_of_zero_le (pickN_lo a1 (n := 11) (by omega))
  have hlt := pickN_hi a1 (n := 11) (by omega)
  exact walk_nat n r a1 (by omega) b1.1 b1.2 hr (by omega) w

/-! ### THE ROW's STEP: WRITTEN OUT: LEAVE IT -/
set_option maxRecDepth 100000 in
theorem lifted (os : Os) (started : os.Started) (H : Type) (enc : TypeId × Value → H) :
    ReturnsInHanded {} Try.checked os 4 .any (Rows.codecLengthsSpec.pre6 enc Try.prog Try.f4 Rows.codecLengthsRow.domain false) (Rows.codecLengthsSpec.post enc Try.prog Try.f4 false true false false) := by
  refine returnsInHanded_of_change (C := Try.checked) own started (by kernel_rfl) Try.func4
    (ChangeSpec.witness6 (enc := enc) (C := Try.checked) false ⟨#[], #[.int .u64 0, .int .i64 0], []⟩ 8 (by kernel_rfl) (by kernel_rfl) (by kernel_rfl) (by kernel_rfl)) ?_
  intro W base args ds gs before hval0 hW hcnd _
  have hval : ∀ (j : Nat) t v, Try.f4.params[j]? = some t → args[j]? = some v → Value.okWide Try.prog W .any base t v := hval0
  have hW' := hW
  obtain ⟨p, q, hA0, hV, rfl, hfz, hnd⟩ := hW
  have hA : DataW.TrodAll enc Try.prog W 0 (fun _ => true) true Try.f4.params.toList args.toList ds p := hA0
  rw [Try.params4] at hA hval
  obtain ⟨v0, vs0, d0, ds0, p0, q0, hargs, rfl, rfl, h0, r0⟩ := trodAll_cons hA
  obtain ⟨v1, vs1, d1, ds1, p1, q1, rfl, rfl, rfl, h1, r1⟩ := trodAll_cons r0
  obtain ⟨rfl, rfl, rfl⟩ := trodAll_nil r1
  obtain rfl : args = #[v0, v1] := by cases args; simp_all
  obtain ⟨rfl, rfl⟩ := trodVars_none hV
  obtain ⟨a0, rfl, rfl, rfl, w0⟩ := open_int Try.underlying22 (hval 0 22 v0 rfl rfl) h0
  obtain ⟨a1, rfl, rfl, rfl, w1⟩ := open_int Try.underlying3 (hval 1 3 v1 rfl rfl) h1
  clear hA0 hval0
  simp only [List.append_nil] at hW'
  refine (walk a0 a1 w0 w1 W).mono fun e W' ⟨he, hg⟩ => ?_
  subst he
  exact ⟨_, rfl, post_of_below (pa := []) (pv := []) hW' (fun _ _ _ => (trodAll_cons_mk (shut_bool Try.underlying4 _) trodAll_mk0)) (fun sp _ => (trodAll_cons_mk (shut_int Try.underlying22 w0) (trodAll_cons_mk (shut_int Try.underlying3 w1) trodAll_mk0))) (fun _ _ => rfl) hg⟩

theorem over : Rows.codecLengthsRow.holds Try.pinned (OpenSpec.ofChange Rows.codecLengthsSpec) :=
  OpenClaim.holds_of_wide 4 Try.f4 rfl rfl rfl rfl rfl rfl rfl ⟨rfl, rfl, rfl, rfl, rfl⟩ rfl rfl rfl rfl rfl (by kernel_rfl) Try.func4 (by kernel_rfl)
    (of_decide_eq_true (by kernel_rfl)) (by unfold Func.isWrapper; first | (rw [if_pos (by decide +kernel)]; kernel_rfl) | (rw [if_neg (by decide +kernel)]; exact ⟨rfl, rfl⟩))
    (fun os started H enc _ => lifted os started H enc)

end Go.Proofs.Ytfbfdfenfcjolab.codecLengths
namespace Go.Proofs.Ytfbfdfenfcjolab

/-- THE STATEMENT. -/
theorem codecLengths_holds : Rows.CodecLengthsSaid := codecLengths.over

end Go.Proofs.Ytfbfdfenfcjolab
