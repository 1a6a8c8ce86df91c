/-
  What Put does; a store that isn't there; the contracts of the program's functions, all together (s_cons).
-/
import Derived.Test.YtmpbganbhoknpaaYStC
set_option linter.unusedVariables false
set_option linter.unusedSimpArgs false
namespace Go.Proofs.Ytmpbganbhoknpaa
open Go.RowKit

section
variable {w : World} {b : Nat} {L : List ByteArray} {S R : Nat} {to : Option Addr} {tc : Nat} {ho : Option Addr} {hc : Nat} {po : Option Addr} {pc m : Nat} {nx hd : Nat → Int}

/-- Behind Put. -/
def PutOut (w : World) (b : Nat) (L : List ByteArray) (S R : Nat) (to ho po : Option Addr) (L' : List ByteArray) (w' : World) : Prop :=
  (∃ to' tc' ho' hc' po' pc' m' nx' hd', StI w' b L' S R to' tc' ho' hc' po' pc' m' nx' hd' ∧ ∀ x, SB b to' ho' po' x → SB b to ho po x ∨ w.heap.size ≤ x) ∧ Mv (SB b to ho po) w w'
theorem StI.nu {w' : World} (h : StI w b L S R to tc ho hc po pc m nx hd) (hn : Nu w w') : StI w' b L S R to tc ho hc po pc m nx hd := ⟨h.sm.nu hn, h.ch, h.m0, h.m1⟩
theorem PutOut.none {w' : World} (h : StI w b L S R to tc ho hc po pc m nx hd) (hn : Nu w w') : PutOut w b L S R to ho po L w' := ⟨⟨_, _, _, _, _, _, _, _, _, h.nu hn, fun _ h => .inl h⟩, hn.mono (fun _ h => h.elim)⟩

set_option maxHeartbeats 8000000 in
set_option maxRecDepth 20000 in
theorem put_any (h : StI w b L S R to tc ho hc po pc m nx hd) (hf : Fine S R L) (hl : L.length ≤ 4000) (s : ByteArray) (hb : bytesIn L + s.size ≤ 140737488355328) (hR : (R : Int) ≤ 9223372036854775807) (hS : (S : Int) ≤ 9223372036854775807) :
    Calls Try.prog 11 #[.pointer (some ⟨b, 0, none⟩), .string s] w fun e w' => e = .returned (.tuple #[.int .i64 ((putS S R L s).1.1 : Int), .bool (putS S R L s).1.2.1, .int .i64 ((putS S R L s).1.2.2 : Int)]) ∧ PutOut w b L S R to ho po (putS S R L s).2 w' := by
  have HI := hid h
  have HF := hid (And.intro hf (And.intro hl hb))
  have HSR := hid (And.intro hS hR)
  have hbr := hf.room
  have hsz : s.size ≤ 140737488355328 := by omega
  have hbl : bytesIn L ≤ 140737488355328 := by omega
  have HSZ := hid (And.intro hsz hbl)
  clear h hf hl
  cases hp : (fnd L s).2 with
  | true =>
    have hPS : putS S R L s = (((fnd L s).1, false, 0), L) := by unfold putS; rw [if_pos hp]
    rw [hPS]
    obtain ⟨k, hk⟩ : ∃ k, (fnd L s).1 = k := ⟨_, rfl⟩
    have HP : Hid (srN L s = (k : Int)) := by rw [← hk]; exact if_pos hp
    have hne : (((k : Nat) : Int) != -1) = true := by simp
    have hne2 : (((k : Nat) : Int) == -1) = false := by simp
    rw [hk]
    clear hp hk hPS
    go_enter Try.func11, Try.ntmps11
    go_wp2_with fail
    refine (hash_any s w HSZ.out.1).mono ?_
    rintro e w1 ⟨rfl, hw⟩; replace hw := hw.symm; subst hw
    go_wp2_with fail
    refine (search_any HI.out HF.out.1 HF.out.2.1 HSZ.out.2 s).mono ?_
    rintro e w2 ⟨rfl, hn2⟩
    have HN2 := hid hn2
    clear hn2
    rw [HP.out]
    go_wp2
    go_ret3
    exact ⟨rfl, PutOut.none HI.out HN2.out⟩
  | false =>
    have HP : Hid (srN L s = -1) := if_neg (by rw [hp]; simp)
    have hnp : ¬ (fnd L s).2 = true := by rw [hp]; simp
    obtain ⟨x, hx⟩ : ∃ x, hsh s = x := ⟨_, rfl⟩
    have HX := hid hx
    clear hx
    by_cases hfull : S ≤ L.length
    · have hPS : putS S R L s = ((0, false, 190), L) := by unfold putS; rw [if_neg hnp, if_pos (.inl hfull)]
      have hfull' : (S : Int) ≤ (L.length : Int) := by omega
      rw [hPS]
      clear hp hnp hfull hPS
      go_enter Try.func11, Try.ntmps11
      go_wp2_with fail
      refine (hash_any s w HSZ.out.1).mono ?_
      rintro e w1 ⟨rfl, hw⟩; replace hw := hw.symm; subst hw
      rw [HX.out]
      go_wp2_with fail
      rw [← HX.out]
      refine (search_any HI.out HF.out.1 HF.out.2.1 HSZ.out.2 s).mono ?_
      rintro e w2 ⟨rfl, hn2⟩
      have HN2 := hid hn2
      clear hn2
      rw [HP.out, HX.out]
      have HI2 := hid (HI.out.nu HN2.out)
      have HLn : Hid (∀ k, Calls Try.prog 17 #[.pointer (some ⟨b, 0, none⟩)] (w2.drewN k) fun e w' => e = .returned (.int .i64 (L.length : Int)) ∧ w' = w2.drewN k) := fun k => len_any (HI2.out.sm.nu (Mv.drewN _ _ _))
      obtain ⟨c0, c1, c2, c3, c4⟩ := cells5s HI2.out.sm.blk
      go_wp2
      go_quiet ((go_at_call 17; exact Calls.quiet_of_same (HLn.out _)))
      go_wp2
      go_ret3
      exact ⟨rfl, PutOut.none HI.out (mv0 HN2.out (Mv.drewN _ _ _))⟩
    · have hfull' : ¬ (S : Int) ≤ (L.length : Int) := by omega
      have hfd : decide ((S : Int) ≤ (L.length : Int)) = false := decide_eq_false hfull'
      have hfn : decide (S ≤ L.length) = false := decide_eq_false hfull
      have hsub : wrap64 ((R : Int) - (bytesIn L : Int)) = (R : Int) - (bytesIn L : Int) := by unfold wrap64; omega
      by_cases hroom : R < bytesIn L + s.size
      · have hPS : putS S R L s = ((0, false, 190), L) := by unfold putS; rw [if_neg hnp, if_pos (.inr hroom)]
        have hroom' : (R : Int) - (bytesIn L : Int) < (s.size : Int) := by omega
        rw [hPS]
        obtain ⟨by', hby⟩ : ∃ n, bytesIn L = n := ⟨_, rfl⟩
        have HBY := hid hby
        rw [hby] at hsub hroom'
        clear hp hnp hfull hPS hroom hby
        go_enter Try.func11, Try.ntmps11
        go_wp2_with fail
        refine (hash_any s w HSZ.out.1).mono ?_
        rintro e w1 ⟨rfl, hw⟩; replace hw := hw.symm; subst hw
        rw [HX.out]
        go_wp2_with fail
        rw [← HX.out]
        refine (search_any HI.out HF.out.1 HF.out.2.1 HSZ.out.2 s).mono ?_
        rintro e w2 ⟨rfl, hn2⟩
        have HN2 := hid hn2
        clear hn2
        rw [HP.out, HX.out]
        have HI2 := hid (HI.out.nu HN2.out)
        have HLn : Hid (∀ k, Calls Try.prog 17 #[.pointer (some ⟨b, 0, none⟩)] (w2.drewN k) fun e w' => e = .returned (.int .i64 (L.length : Int)) ∧ w' = w2.drewN k) := fun k => len_any (HI2.out.sm.nu (Mv.drewN _ _ _))
        have HBy : Hid (∀ k, Calls Try.prog 18 #[.pointer (some ⟨b, 0, none⟩)] (w2.drewN k) fun e w' => e = .returned (.int .i64 (by' : Int)) ∧ w' = w2.drewN k) := fun k => by
          rw [← HBY.out]; exact bytes_any (HI2.out.sm.nu (Mv.drewN _ _ _))
        obtain ⟨c0, c1, c2, c3, c4⟩ := cells5s HI2.out.sm.blk
        go_wp2
        go_quiet ((first | (go_at_call 17; exact Calls.quiet_of_same (HLn.out _)) | (go_at_call 18; exact Calls.quiet_of_same (HBy.out _))))
        go_wp2
        go_ret3
        exact ⟨rfl, PutOut.none HI.out (mv0 HN2.out (Mv.drewN _ _ _))⟩
      · have hPS : putS S R L s = ((L.length, true, 0), L ++ [s]) := by unfold putS; rw [if_neg hnp, if_neg (by omega)]
        have hroom' : ¬ (R : Int) - (bytesIn L : Int) < (s.size : Int) := by omega
        rw [hPS]
        obtain ⟨by', hby⟩ : ∃ n, bytesIn L = n := ⟨_, rfl⟩
        have HBY := hid hby
        rw [hby] at hsub hroom'
        clear hp hnp hfull hPS hroom hby
        go_enter Try.func11, Try.ntmps11
        go_wp2_with fail
        refine (hash_any s w HSZ.out.1).mono ?_
        rintro e w1 ⟨rfl, hw⟩; replace hw := hw.symm; subst hw
        rw [HX.out]
        go_wp2_with fail
        rw [← HX.out]
        refine (search_any HI.out HF.out.1 HF.out.2.1 HSZ.out.2 s).mono ?_
        rintro e w2 ⟨rfl, hn2⟩
        have HN2 := hid hn2
        clear hn2
        rw [HP.out, HX.out]
        have HI2 := hid (HI.out.nu HN2.out)
        have HLn : Hid (∀ k, Calls Try.prog 17 #[.pointer (some ⟨b, 0, none⟩)] (w2.drewN k) fun e w' => e = .returned (.int .i64 (L.length : Int)) ∧ w' = w2.drewN k) := fun k => len_any (HI2.out.sm.nu (Mv.drewN _ _ _))
        have HBy : Hid (∀ k, Calls Try.prog 18 #[.pointer (some ⟨b, 0, none⟩)] (w2.drewN k) fun e w' => e = .returned (.int .i64 (by' : Int)) ∧ w' = w2.drewN k) := fun k => by
          rw [← HBY.out]; exact bytes_any (HI2.out.sm.nu (Mv.drewN _ _ _))
        obtain ⟨c0, c1, c2, c3, c4⟩ := cells5s HI2.out.sm.blk
        go_wp2
        go_quiet ((first | (go_at_call 17; exact Calls.quiet_of_same (HLn.out _)) | (go_at_call 18; exact Calls.quiet_of_same (HBy.out _))))
        generalize hW3 : World.drewN w2 _ = w3
        have HN3 : Hid (Nu w w3) := by rw [← hW3]; exact mv0 HN2.out (Mv.drewN _ _ _)
        clear hW3 c0 c1 c2 c3 c4
        go_wp2_with fail
        rw [← HX.out]
        refine (add_any (HI.out.nu HN3.out) s HF.out.2.1 HF.out.2.2).mono ?_
        rintro e w4 ⟨rfl, ⟨to', tc', ho', hc', po', pc', m', nx', hd', hsi, hnb⟩, hm⟩
        have HO : Hid (PutOut w b L S R to ho po (L ++ [s]) w4) := ⟨⟨to', tc', ho', hc', po', pc', m', nx', hd', hsi, fun x hx => (hnb x hx).imp id (fun h => Nat.le_trans HN3.out.size h)⟩, (HN3.out.mono (fun _ h => h.elim)).trans hm (fun _ h => .inl h)⟩
        clear hsi hnb hm
        go_wp2
        go_ret3
        exact ⟨rfl, HO.out⟩
end

set_option maxHeartbeats 1000000 in
set_option maxRecDepth 20000 in
theorem putN_any (w : World) (s : ByteArray) : Calls Try.prog 11 #[.pointer none, .string s] w fun e w' => e = .returned (.tuple #[.int .i64 0, .bool false, .int .i64 1]) ∧ Below w.heap.size w w' := by
  go_enter Try.func11, Try.ntmps11
  go_wp2
  go_ret3
  exact ⟨rfl, Below.refl _ _⟩
set_option maxHeartbeats 1000000 in
set_option maxRecDepth 20000 in
theorem findN_any (w : World) (s : ByteArray) : Calls Try.prog 13 #[.pointer none, .string s] w fun e w' => e = .returned (.tuple #[.int .i64 0, .bool false]) ∧ Below w.heap.size w w' := by
  go_enter Try.func13, Try.ntmps13
  go_wp2
  go_ret2
  exact ⟨rfl, Below.refl _ _⟩
set_option maxHeartbeats 1000000 in
set_option maxRecDepth 20000 in
theorem lenN_any (w : World) : Calls Try.prog 17 #[.pointer none] w fun e w' => e = .returned (.int .i64 0) ∧ w' = w := by
  go_enter Try.func17, Try.ntmps17
  go_wp2
  go_ret
  exact ⟨rfl, rfl⟩
set_option maxHeartbeats 1000000 in
set_option maxRecDepth 20000 in
theorem bytesN_any (w : World) : Calls Try.prog 18 #[.pointer none] w fun e w' => e = .returned (.int .i64 0) ∧ w' = w := by
  go_enter Try.func18, Try.ntmps18
  go_wp2
  go_ret
  exact ⟨rfl, rfl⟩
set_option maxHeartbeats 1000000 in
set_option maxRecDepth 20000 in
theorem getN_any (w : World) (n : Int) : Calls Try.prog 15 #[.pointer none, .int .i64 n] w fun e w' => e = .returned (.tuple #[.string ⟨#[]⟩, .bool false]) ∧ Below w.heap.size w w' := by
  rcases Int.lt_or_le n 0 with hn | hn
  · go_enter Try.func15, Try.ntmps15
    go_wp2
    go_ret2
    exact ⟨rfl, Below.refl _ _⟩
  · have hn' : ¬ n < 0 := by omega
    go_enter Try.func15, Try.ntmps15
    go_wp2_with (go_at_call 17; refine (lenN_any w).mono ?_; rintro e w1 ⟨rfl, hw⟩; replace hw := hw.symm; subst hw)
    go_wp2
    go_ret2
    exact ⟨rfl, Below.refl _ _⟩

/-- THE CONTRACTS. -/
theorem s_cons : SCons St where
  frame := fun F w w' b L S R h hk => h.frame hk
  lt := fun F w b L S R h x hx => h.lt hx
  new := fun w s r _ h1 _ h2 => (new_any w s r h1 h2).mono fun e w' ⟨he, hs, hn⟩ => ⟨w.heap.size, SB w.heap.size none none none, he,
    ⟨none, 0, none, 0, none, 0, 0, _, _, ⟨hs, ⟨fun i hi => absurd hi (Nat.not_lt_zero _), fun c hc => absurd hc (Nat.not_lt_zero _)⟩, fun _ => rfl, Nat.zero_le _⟩, fun _ => Iff.rfl⟩,
    (fun x hx => by
      rcases hx with rfl | ⟨_, h, _⟩ | ⟨_, h, _⟩ | ⟨_, h, _⟩
      · exact Nat.le_refl _
      all_goals cases h), hn.nu_below⟩
  put := fun w F b L S R s ⟨to, tc, ho, hc, po, pc, m, nx, hd, h, hF⟩ hf hl hb hR hS => (put_any h hf hl s hb hR hS).mono fun e w' ⟨he, ⟨to', tc', ho', hc', po', pc', m', nx', hd', h', hnb⟩, hm⟩ =>
    ⟨SB b to' ho' po', he, ⟨to', tc', ho', hc', po', pc', m', nx', hd', h', fun _ => Iff.rfl⟩, fun x hx => (hnb x hx).imp (hF x).2 id, only_of (hm.mono (fun x hx => .inl ((hF x).2 hx)))⟩
  find := fun w F b L S R s ⟨to, tc, ho, hc, po, pc, m, nx, hd, h, hF⟩ hf hl hb hs => (find_any h hf hl hb s hs).mono fun e w' ⟨he, hn⟩ => ⟨he, hn.nu_below⟩
  get := fun w F b L S R n ⟨to, tc, ho, hc, po, pc, m, nx, hd, h, hF⟩ hf hl hb _ _ => (get_any h hl hb n).mono fun e w' ⟨he, hn⟩ => ⟨he, hn.nu_below⟩
  len := fun w F b L S R ⟨to, tc, ho, hc, po, pc, m, nx, hd, h, hF⟩ _ _ => len_any h.sm
  bytes := fun w F b L S R ⟨to, tc, ho, hc, po, pc, m, nx, hd, h, hF⟩ _ _ _ => bytes_any h.sm
  putN := putN_any
  findN := findN_any
  getN := getN_any
  lenN := lenN_any
  bytesN := bytesN_any

end Go.Proofs.Ytmpbganbhoknpaa
