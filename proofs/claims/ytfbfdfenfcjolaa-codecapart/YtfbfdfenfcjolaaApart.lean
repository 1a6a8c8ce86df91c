/-
  PROVED HERE: whatever the bytes and the two numbers, the statement sextantlaw01.CodecApart (a number that is read is put as the bytes that were read; no number's bytes are the beginning of another one's) answers true and leaves its arguments as they were. No condition.
-/
import Derived.Test.YtfbfdfenfcjolaaRows
import Derived.Test.YtfbfdfenfcjolaaKnown
import Derived.Test.YtfbfdfenfcjolaaCodec
import Derived.Test.YtfbfdfenfcjolaaFrame
import Derived.WalkKit
import Derived.ProofKit
import Derived.OpenShut
import Derived.ShutString
import Derived.SizedLaws
namespace Go.Proofs.Ytfbfdfenfcjolaa.codecApart
open Go.ChangeShapes Go.WideShapes Go.ChangeAt Go.RowKit
open Go.ChangeMaps (open_string shut_string)
set_option linter.unusedVariables false

theorem own : ownKnob Try.prog.godebug = none := by kernel_rfl

theorem enc_fit20 {n : Nat} (h : (n : Int) < 18446744073709551616) : putCode 20 [] (encU n) = 0 ∧ after 20 [] (encU n) = encU n := by
  have h10 : (encU n).length ≤ 10 := encU_ten (by omega)
  have hl : (encU n).length ≤ 20 - ([] : List UInt8).length := by simp; omega
  exact ⟨if_pos hl, by rw [show after 20 [] (encU n) = [] ++ encU n from if_pos hl]; rfl⟩

/-- Two buffers that are made, and put into one behind the other. -/
theorem made {W W1 : World} {B : Nat} (hB : B ≤ W.heap.size) (hw : W1 = W.alloc (.cells #[.slice none 0 0, .int .i64 ((20 : Nat) : Int)] 70)) : BufIs 70 W1 W.heap.size none 0 [] 20 ∧ Below B W W1 ∧ W1.heap.size = W.heap.size + 1 := by
  subst hw
  exact ⟨buf_new W 20, (Below.refl _ _).alloc hB _, by simp⟩

/-- A buffer that was made behind another one, and is still empty, is as it was when that one has been put into. -/
theorem below_other {W W' : World} {bb dd : Nat} {bs ds : List UInt8} {room room' : Nat} (h : BufIs 70 W dd none 0 bs room') (hp : PutsTo W W' bb none [] ds room) (hne : dd ≠ bb) : BufIs 70 W' dd none 0 bs room' := by
  obtain ⟨_, _, _, hk, _⟩ := hp
  exact h.kept hk (by simp [rowOf]; exact hne) (by simp)

theorem put_first {W W' : World} {bb cap B : Nat} {ds : List UInt8} {room : Nat} (h : BufIs 70 W bb none cap [] room) (hp : PutsTo W W' bb none [] ds room) (hB : B ≤ bb) :
    Below B W W' ∧ ∃ ao' cap', BufIs 70 W' bb ao' cap' (after room [] ds) room ∧ ∀ a, ao' = some a → W.heap.size ≤ a.block := by
  have hb := (hp.below h hB).1
  obtain ⟨ao', cap', hb', _, hm⟩ := hp
  refine ⟨hb, ao', cap', hb', fun a ha => ?_⟩
  rcases hm with e | e
  · rw [ha] at e; cases e
  · exact e a ha

theorem kept_first {W W' : World} {bb dd : Nat} {ao : Option Addr} {cap : Nat} {bs ds : List UInt8} {room room' : Nat} (h : BufIs 70 W bb ao cap bs room) (hp : PutsTo W W' dd none [] ds room') (hne : bb ≠ dd) (hao : ∀ a, ao = some a → a.block ≠ dd) : BufIs 70 W' bb ao cap bs room := by
  obtain ⟨_, _, _, hk, _⟩ := hp
  exact h.kept hk (by simp [rowOf]; exact hne) (fun a ha => by simp [rowOf]; exact hao a ha)

theorem rd_other {W W' : World} {bb rb : Nat} {s : ByteArray} {p : Nat} {ds : List UInt8} {room : Nat} (h : RdIs 76 W rb s p) (hp : PutsTo W W' bb none [] ds room) (hne : rb ≠ bb) : RdIs 76 W' rb s p := by
  obtain ⟨_, _, _, hk, _⟩ := hp
  exact h.kept hk (by simp [rowOf]; exact hne)

theorem ret_same {a b : Bool} (h : a = b) : Ending.returned (.bool (a == b)) = .returned (.bool true) := by rw [h]; simp

theorem same_enc (n m : Nat) (hn : n < 18446744073709551616) (hm : m < 18446744073709551616) {U V : ByteArray} (hU : U = ⟨(encU n).toArray⟩) (hV : V = ⟨(encU m).toArray⟩) :
    ((n : Int) == (m : Int)) = ((V.extract 0 U.size).toList == U.toList) := by
  have e1 : U.toList = encU n := by rw [Lib.toList_data, hU]
  have e2 : (V.extract 0 U.size).toList = (encU m).take (encU n).length := by
    rw [Lib.toList_data, Lib.extract_data, hV, hU]
    rfl
  rw [e1, e2, Bool.eq_iff_iff, beq_iff_eq, beq_iff_eq]
  constructor
  · intro h
    have : n = m := by omega
    subst this
    rw [List.take_length]
  · intro h
    rw [enc_apart n m hn hm h]

set_option maxHeartbeats 4000000 in
set_option maxRecDepth 100000 in
theorem walk_nat (s : ByteArray) (n m : Nat) (hs : s.size ≤ 140737488355328) (hn : (n : Int) < 18446744073709551616) (hm : (m : Int) < 18446744073709551616) (w : World) :
    Calls Try.prog 7 #[.string s, .int .u64 (n : Int), .int .u64 (m : Int)] w fun e w' => e = .returned (.bool true) ∧ Below w.heap.size w w' := by
  have HN : Hid _ := enc_fit20 hn
  have HM : Hid _ := enc_fit20 hm
  have HX : Hid _ := enc_fit20 (numAt_lt s 0)
  go_enter Try.func7, Try.ntmps7
  go_wp2_with fail
  refine (Read_any s w).mono ?_
  rintro e w' ⟨rfl, rfl⟩
  go_wp2_with fail
  refine (New_any _ _).mono ?_
  rw [show roomOf 20 = 20 from rfl]
  rintro e w2 ⟨rfl, hw2⟩
  have hr2 := (rd_new w s).kept (Kept.alloc [] _ (.cells #[.slice none 0 0, .int .i64 ((20 : Nat) : Int)] 70)) (by simp)
  obtain ⟨hb2, hk2, _⟩ := made (B := w.heap.size) (by simp) hw2
  rw [← hw2] at hr2
  replace hk2 := ((Below.refl w.heap.size w).alloc (Nat.le_refl _) _).trans hk2
  rw [show (w.alloc (.cells #[.string s, .int .i64 0] 76)).heap.size = w.heap.size + 1 by simp] at hb2
  clear hw2
  go_wp2_with fail
  refine (known_any _).mono ?_
  rintro e w3 ⟨rfl, hk⟩
  have hr3 := hr2.kept hk (by simp)
  have hb3 := hb2.kept hk (by simp) (by simp)
  have hk3 := hk2.trans (hk.from (B := w.heap.size) (by have := hk2.size; omega) (by simp))
  clear hk hr2 hb2 hk2
  go_wp2_with fail
  refine (rUint_any w3 hr3 hs).mono ?_
  rintro e w4 ⟨rfl, hr4, hk⟩
  have hb4 := hb3.kept hk (by simp) (by simp)
  have hk4 := hk3.trans (hk.from (B := w.heap.size) (by have := hk3.size; omega) (by simp))
  clear hk hr3 hb3 hk3
  by_cases he : (numAt s 0).2.2 = 0
  · have hq : ((numAt s 0).2.2 == 0) = true := by rw [he]; rfl
    have hd : encU (numAt s 0).1 = (bytesOf s).take (numAt s 0).2.1 := by
      refine encU_dec _ _ _ ?_
      rw [← he]
      show decU (bytesOf s) = numAt s 0
      rfl
    have HD : Hid _ := hd
    clear hd
    go_wp2_with fail
    refine (bUint_any _ w4 (numAt_lt s 0) hb4).mono ?_
    rw [HX.out.1]
    rintro e w5 ⟨rfl, hp⟩
    obtain ⟨hk5, ao5, cap5, hb5⟩ := hp.below hb4 (Nat.le_succ _)
    rw [HX.out.2] at hb5
    have hr5 := rd_other hr4 hp (by omega)
    replace hk5 := hk4.trans hk5
    have hst : (⟨(encU (numAt s 0).1).toArray⟩ : ByteArray) = s.extract 0 (numAt s 0).2.1 := by
      rw [HD.out]
      apply ByteArray.ext
      apply Array.ext'
      rw [Lib.extract_data]
      simp [bytesOf]
    have HS : Hid _ := hst
    have hle := numAt_le (s := s) (p := 0) (Nat.zero_le _)
    clear hst hp HD HX hb4 hr4
    go_wp2_with fail
    refine (String_any w5 hb5).mono ?_
    rw [HS.out]
    rintro e w' ⟨rfl, hw⟩; replace hw := hw.symm; subst hw
    go_wp2_with fail
    refine (At_any w5 hr5).mono ?_
    rintro e w' ⟨rfl, hw⟩; replace hw := hw.symm; subst hw
    clear HS hb5 hr5
    go_wp2_with fail
    refine (New_any _ _).mono ?_
    rw [show roomOf 20 = 20 from rfl]
    rintro e w6 ⟨rfl, hw6⟩
    obtain ⟨hc6, hk6, hz6⟩ := made (B := w.heap.size) (by have := hk5.size; omega) hw6
    replace hk6 := hk5.trans hk6
    clear hw6
    go_wp2_with fail
    refine (New_any _ _).mono ?_
    rw [show roomOf 20 = 20 from rfl]
    rintro e w7 ⟨rfl, hw7⟩
    obtain ⟨hd7, hk7, hz7⟩ := made (B := w.heap.size) (by have := hk6.size; omega) hw7
    have hc7 := hc6.kept (Kept.alloc [] _ (.cells #[.slice none 0 0, .int .i64 ((20 : Nat) : Int)] 70)) (by simp) (by simp)
    rw [← hw7] at hc7
    replace hk7 := hk6.trans hk7
    rw [hz6] at hd7 hz7
    clear hw7 hc6
    go_wp2_with fail
    refine (bUint_any n w7 hn hc7).mono ?_
    rw [HN.out.1]
    rintro e w8 ⟨rfl, hp⟩
    obtain ⟨hk8, ao8, cap8, hc8, hm8⟩ := put_first hc7 hp (show w.heap.size ≤ _ by have := hk5.size; omega)
    rw [HN.out.2] at hc8
    have hd8 := below_other hd7 hp (by omega)
    replace hk8 := hk7.trans hk8
    clear hp hc7 hd7 hk7
    go_wp2_with fail
    refine (bUint_any m w8 hm hd8).mono ?_
    rw [HM.out.1]
    rintro e w9 ⟨rfl, hp⟩
    obtain ⟨hk9, ao9, cap9, hd9⟩ := hp.below hd8 (show w.heap.size ≤ _ by have := hk6.size; omega)
    rw [HM.out.2] at hd9
    have hc9 := kept_first hc8 hp (by omega) (fun a ha => by have := hm8 a ha; omega)
    replace hk9 := hk8.trans hk9
    clear hp hd8 hc8 hk8 hm8 hk6
    obtain ⟨U, hU⟩ : ∃ U : ByteArray, U = ⟨(encU n).toArray⟩ := ⟨_, rfl⟩
    obtain ⟨V, hV⟩ : ∃ V : ByteArray, V = ⟨(encU m).toArray⟩ := ⟨_, rfl⟩
    have HU : Hid _ := hU
    have HV : Hid _ := hV
    clear hU hV
    go_wp2_with fail
    refine (String_any w9 hc9).mono ?_
    rw [← HU.out]
    rintro e w' ⟨rfl, hw⟩; replace hw := hw.symm; subst hw
    go_wp2_with fail
    refine (String_any w9 hd9).mono ?_
    rw [← HV.out]
    rintro e w' ⟨rfl, hw⟩; replace hw := hw.symm; subst hw
    clear hc9 hd9
    have hus : U.size ≤ 10 := by rw [HU.out]; exact encU_ten (by omega)
    have hvs : V.size ≤ 10 := by rw [HV.out]; exact encU_ten (by omega)
    have Hn : Hid (n < 18446744073709551616) := by show _ < _; omega
    have Hm : Hid (m < 18446744073709551616) := by show _ < _; omega
    clear hn hm hs
    by_cases hle2 : U.size ≤ V.size
    · have hle3 : (U.size : Int) ≤ (V.size : Int) := by omega
      go_wp2
      go_ret
      exact ⟨ret_same (same_enc n m Hn.out Hm.out HU.out HV.out), hk9⟩
    · have hle3 : (V.size : Int) < (U.size : Int) := by omega
      go_wp2
      go_ret
      exact ⟨ret_same (by rw [show ((n : Int) == (m : Int)) = ((m : Int) == (n : Int)) from BEq.comm]; exact same_enc m n Hm.out Hn.out HV.out HU.out), hk9⟩
  · have hq : ((numAt s 0).2.2 == 0) = false := by simpa using he
    go_wp2_with fail
    refine (New_any _ _).mono ?_
    rw [show roomOf 20 = 20 from rfl]
    rintro e w6 ⟨rfl, hw6⟩
    obtain ⟨hc6, hk6, hz6⟩ := made (B := w.heap.size) (by have := hk4.size; omega) hw6
    replace hk6 := hk4.trans hk6
    clear hw6
    go_wp2_with fail
    refine (New_any _ _).mono ?_
    rw [show roomOf 20 = 20 from rfl]
    rintro e w7 ⟨rfl, hw7⟩
    obtain ⟨hd7, hk7, hz7⟩ := made (B := w.heap.size) (by have := hk6.size; omega) hw7
    have hc7 := hc6.kept (Kept.alloc [] _ (.cells #[.slice none 0 0, .int .i64 ((20 : Nat) : Int)] 70)) (by simp) (by simp)
    rw [← hw7] at hc7
    replace hk7 := hk6.trans hk7
    rw [hz6] at hd7 hz7
    clear hw7 hc6
    go_wp2_with fail
    refine (bUint_any n w7 hn hc7).mono ?_
    rw [HN.out.1]
    rintro e w8 ⟨rfl, hp⟩
    obtain ⟨hk8, ao8, cap8, hc8, hm8⟩ := put_first hc7 hp (show w.heap.size ≤ _ by have := hk4.size; omega)
    rw [HN.out.2] at hc8
    have hd8 := below_other hd7 hp (by omega)
    replace hk8 := hk7.trans hk8
    clear hp hc7 hd7 hk7
    go_wp2_with fail
    refine (bUint_any m w8 hm hd8).mono ?_
    rw [HM.out.1]
    rintro e w9 ⟨rfl, hp⟩
    obtain ⟨hk9, ao9, cap9, hd9⟩ := hp.below hd8 (show w.heap.size ≤ _ by have := hk6.size; omega)
    rw [HM.out.2] at hd9
    have hc9 := kept_first hc8 hp (by omega) (fun a ha => by have := hm8 a ha; omega)
    replace hk9 := hk8.trans hk9
    clear hp hd8 hc8 hk8 hm8 hk6
    obtain ⟨U, hU⟩ : ∃ U : ByteArray, U = ⟨(encU n).toArray⟩ := ⟨_, rfl⟩
    obtain ⟨V, hV⟩ : ∃ V : ByteArray, V = ⟨(encU m).toArray⟩ := ⟨_, rfl⟩
    have HU : Hid _ := hU
    have HV : Hid _ := hV
    clear hU hV
    go_wp2_with fail
    refine (String_any w9 hc9).mono ?_
    rw [← HU.out]
    rintro e w' ⟨rfl, hw⟩; replace hw := hw.symm; subst hw
    go_wp2_with fail
    refine (String_any w9 hd9).mono ?_
    rw [← HV.out]
    rintro e w' ⟨rfl, hw⟩; replace hw := hw.symm; subst hw
    clear hc9 hd9
    have hus : U.size ≤ 10 := by rw [HU.out]; exact encU_ten (by omega)
    have hvs : V.size ≤ 10 := by rw [HV.out]; exact encU_ten (by omega)
    have Hn : Hid (n < 18446744073709551616) := by show _ < _; omega
    have Hm : Hid (m < 18446744073709551616) := by show _ < _; omega
    clear hn hm hs
    by_cases hle2 : U.size ≤ V.size
    · have hle3 : (U.size : Int) ≤ (V.size : Int) := by omega
      go_wp2
      go_ret
      exact ⟨ret_same (same_enc n m Hn.out Hm.out HU.out HV.out), hk9⟩
    · have hle3 : (V.size : Int) < (U.size : Int) := by omega
      go_wp2
      go_ret
      exact ⟨ret_same (by rw [show ((n : Int) == (m : Int)) = ((m : Int) == (n : Int)) from BEq.comm]; exact same_enc m n Hm.out Hn.out HV.out HU.out), hk9⟩

theorem walk (a0 : ByteArray) (a1 a2 : Int) (w0 : a0.size ≤ maxLen) (w1 : (Lit.int .u64 a1).wf = true) (w2 : (Lit.int .u64 a2).wf = true) (z0 : a0.data.toList.length ≤ reachBytes) (w : World) :
    Calls Try.prog 7 #[.string a0, .int .u64 a1, .int .u64 a2] w fun e w' => e = .returned (.bool true) ∧ Below w.heap.size w w' := by
  have b1 := bounds_u64 w1
  have b2 := bounds_u64 w2
  obtain ⟨n, rfl⟩ := Int.eq_ofNat_of_zero_le b1.1
  obtain ⟨m, rfl⟩ := Int.eq_ofNat_of_zero_le b2.1
  have hz : a0.size ≤ 140737488355328 := by
    have e : a0.data.toList.length = a0.size := by rw [Array.length_toList]; rfl
    unfold reachBytes at z0
    omega
  exact walk_nat a0 n m hz (by omega) (by omega) w

/-! ### THE ROW's STEP: WRITTEN OUT: LEAVE IT -/
set_option maxRecDepth 100000 in
theorem lifted (os : Os) (started : os.Started) (H : Type) (enc : TypeId × Value → H) :
    ReturnsInHanded {} Try.checked os 7 .any (Rows.codecApartSpec.pre6 enc Try.prog Try.f7 Rows.codecApartRow.domain false) (Rows.codecApartSpec.post enc Try.prog Try.f7 false true false false) := by
  refine returnsInHanded_of_change_sized (C := Try.checked) own started (by kernel_rfl) Try.func7
    (ChangeSpec.witness6 (enc := enc) (C := Try.checked) false ⟨#[], #[.string ByteArray.empty, .int .u64 0, .int .u64 0], []⟩ 8 (by kernel_rfl) (by kernel_rfl) (by kernel_rfl) (by kernel_rfl)) ?_
  intro W base args ds gs before hval0 hW hcnd hsz0 _
  have hval : ∀ (j : Nat) t v, Try.f7.params[j]? = some t → args[j]? = some v → Value.okWide Try.prog W .any base t v := hval0
  have hsz : (DataW.weightsEach Try.prog (Try.f7.params.toList ++ Rows.codecApartSpec.plain.varTypes Try.prog) (ds ++ gs)).all (· ≤ reachBytes) = true := hsz0
  have hW' := hW
  obtain ⟨p, q, hA0, hV, rfl, hfz, hnd⟩ := hW
  have hA : DataW.TrodAll enc Try.prog W 0 (fun _ => true) true Try.f7.params.toList args.toList ds p := hA0
  rw [Try.params7] at hA hval hsz
  obtain ⟨v0, vs0, d0, ds0, p0, q0, hargs, rfl, rfl, h0, r0⟩ := trodAll_cons hA
  obtain ⟨v1, vs1, d1, ds1, p1, q1, rfl, rfl, rfl, h1, r1⟩ := trodAll_cons r0
  obtain ⟨v2, vs2, d2, ds2, p2, q2, rfl, rfl, rfl, h2, r2⟩ := trodAll_cons r1
  obtain ⟨rfl, rfl, rfl⟩ := trodAll_nil r2
  obtain rfl : args = #[v0, v1, v2] := by cases args; simp_all
  obtain ⟨rfl, rfl⟩ := trodVars_none hV
  obtain ⟨a0, rfl, rfl, rfl, w0⟩ := open_string Try.underlying9 (hval 0 9 v0 rfl rfl) h0
  obtain ⟨a1, rfl, rfl, rfl, w1⟩ := open_int Try.underlying29 (hval 1 29 v1 rfl rfl) h1
  obtain ⟨a2, rfl, rfl, rfl, w2⟩ := open_int Try.underlying29 (hval 2 29 v2 rfl rfl) h2
  have z0 := sized_string hsz (j := 0) rfl rfl
  clear hA0 hval0 hsz hsz0
  simp only [List.append_nil] at hW'
  refine (walk a0 a1 a2 w0 w1 w2 z0 W).mono fun e W' ⟨he, hg⟩ => ?_
  subst he
  exact ⟨_, rfl, post_of_below (pa := []) (pv := []) hW' (fun _ _ _ => (trodAll_cons_mk (shut_bool Try.underlying4 _) trodAll_mk0)) (fun sp _ => (trodAll_cons_mk (shut_string Try.underlying9 w0) (trodAll_cons_mk (shut_int Try.underlying29 w1) (trodAll_cons_mk (shut_int Try.underlying29 w2) trodAll_mk0)))) (fun _ _ => rfl) hg⟩

theorem over : Rows.codecApartRow.holds Try.pinned (OpenSpec.ofChange Rows.codecApartSpec) :=
  OpenClaim.holds_of_wide 7 Try.f7 rfl rfl rfl rfl rfl rfl rfl ⟨rfl, rfl, rfl, rfl, rfl⟩ rfl rfl rfl rfl rfl (by kernel_rfl) Try.func7 (by kernel_rfl)
    (of_decide_eq_true (by kernel_rfl)) (by unfold Func.isWrapper; first | (rw [if_pos (by decide +kernel)]; kernel_rfl) | (rw [if_neg (by decide +kernel)]; exact ⟨rfl, rfl⟩))
    (fun os started H enc _ => lifted os started H enc)

end Go.Proofs.Ytfbfdfenfcjolaa.codecApart
namespace Go.Proofs.Ytfbfdfenfcjolaa

/-- THE STATEMENT. -/
theorem codecApart_holds : Rows.CodecApartSaid := codecApart.over

end Go.Proofs.Ytfbfdfenfcjolaa

