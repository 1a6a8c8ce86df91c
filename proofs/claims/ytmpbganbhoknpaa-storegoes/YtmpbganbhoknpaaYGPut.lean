/-
  What Put does where the text may be greater than there is room for.
-/
import Derived.Test.YtmpbganbhoknpaaYStIt
set_option linter.unusedVariables false
set_option linter.unusedSimpArgs false
namespace Go.Proofs.Ytmpbganbhoknpaa
open Go.RowKit

section
variable {w : World} {b : Nat} {L : List ByteArray} {S R : Nat} {to : Option Addr} {tc : Nat} {ho : Option Addr} {hc : Nat} {po : Option Addr} {pc m : Nat} {nx hd : Nat → Int}

set_option maxHeartbeats 8000000 in
set_option maxRecDepth 20000 in
theorem putBig_any (h : StI w b L S R to tc ho hc po pc m nx hd) (hf : Fine S R L) (hl : L.length ≤ 4000) (s : ByteArray) (hsz : s.size ≤ 140737488355328) (hRb : R ≤ 140737488355328) (hR : (R : Int) ≤ 9223372036854775807) (hS : (S : Int) ≤ 9223372036854775807) :
    Calls Try.prog 11 #[.pointer (some ⟨b, 0, none⟩), .string s] w fun e w' => e = .returned (.tuple #[.int .i64 ((putS S R L s).1.1 : Int), .bool (putS S R L s).1.2.1, .int .i64 ((putS S R L s).1.2.2 : Int)]) ∧ PutOut w b L S R to ho po (putS S R L s).2 w' := by
  have HI := hid h
  have HF := hid (And.intro hf (And.intro hl hRb))
  have HSR := hid (And.intro hS hR)
  have hbr := hf.room
  have hbl : bytesIn L ≤ 140737488355328 := by omega
  have HSZ := hid (And.intro hsz hbl)
  clear h hf hl hRb
  cases hp : (fnd L s).2 with
  | true =>
    have hPS : putS S R L s = (((fnd L s).1, false, 0), L) := by unfold putS; rw [if_pos hp]
    rw [hPS]
    obtain ⟨k, hk⟩ : ∃ k, (fnd L s).1 = k := ⟨_, rfl⟩
    have HP : Hid (srN L s = (k : Int)) := by rw [← hk]; exact if_pos hp
    have hne : (((k : Nat) : Int) != -1) = true := by simp
    have hne2 : (((k : Nat) : Int) == -1) = false := by simp
    rw [hk]
    clear hp hk hPS
    go_enter Try.func11, Try.ntmps11
    go_wp2_with fail
    refine (hash_any s w HSZ.out.1).mono ?_
    rintro e w1 ⟨rfl, hw⟩; replace hw := hw.symm; subst hw
    go_wp2_with fail
    refine (search_any HI.out HF.out.1 HF.out.2.1 HSZ.out.2 s).mono ?_
    rintro e w2 ⟨rfl, hn2⟩
    have HN2 := hid hn2
    clear hn2
    rw [HP.out]
    go_wp2
    go_ret3
    exact ⟨rfl, PutOut.none HI.out HN2.out⟩
  | false =>
    have HP : Hid (srN L s = -1) := if_neg (by rw [hp]; simp)
    have hnp : ¬ (fnd L s).2 = true := by rw [hp]; simp
    obtain ⟨x, hx⟩ : ∃ x, hsh s = x := ⟨_, rfl⟩
    have HX := hid hx
    clear hx
    by_cases hfull : S ≤ L.length
    · have hPS : putS S R L s = ((0, false, 190), L) := by unfold putS; rw [if_neg hnp, if_pos (.inl hfull)]
      have hfull' : (S : Int) ≤ (L.length : Int) := by omega
      rw [hPS]
      clear hp hnp hfull hPS
      go_enter Try.func11, Try.ntmps11
      go_wp2_with fail
      refine (hash_any s w HSZ.out.1).mono ?_
      rintro e w1 ⟨rfl, hw⟩; replace hw := hw.symm; subst hw
      rw [HX.out]
      go_wp2_with fail
      rw [← HX.out]
      refine (search_any HI.out HF.out.1 HF.out.2.1 HSZ.out.2 s).mono ?_
      rintro e w2 ⟨rfl, hn2⟩
      have HN2 := hid hn2
      clear hn2
      rw [HP.out, HX.out]
      have HI2 := hid (HI.out.nu HN2.out)
      have HLn : Hid (∀ k, Calls Try.prog 17 #[.pointer (some ⟨b, 0, none⟩)] (w2.drewN k) fun e w' => e = .returned (.int .i64 (L.length : Int)) ∧ w' = w2.drewN k) := fun k => len_any (HI2.out.sm.nu (Mv.drewN _ _ _))
      obtain ⟨c0, c1, c2, c3, c4⟩ := cells5s HI2.out.sm.blk
      go_wp2
      go_quiet ((go_at_call 17; exact Calls.quiet_of_same (HLn.out _)))
      go_wp2
      go_ret3
      exact ⟨rfl, PutOut.none HI.out (mv0 HN2.out (Mv.drewN _ _ _))⟩
    · have hfull' : ¬ (S : Int) ≤ (L.length : Int) := by omega
      have hfd : decide ((S : Int) ≤ (L.length : Int)) = false := decide_eq_false hfull'
      have hfn : decide (S ≤ L.length) = false := decide_eq_false hfull
      have hsub : wrap64 ((R : Int) - (bytesIn L : Int)) = (R : Int) - (bytesIn L : Int) := by unfold wrap64; omega
      by_cases hroom : R < bytesIn L + s.size
      · have hPS : putS S R L s = ((0, false, 190), L) := by unfold putS; rw [if_neg hnp, if_pos (.inr hroom)]
        have hroom' : (R : Int) - (bytesIn L : Int) < (s.size : Int) := by omega
        rw [hPS]
        obtain ⟨by', hby⟩ : ∃ n, bytesIn L = n := ⟨_, rfl⟩
        have HBY := hid hby
        rw [hby] at hsub hroom'
        clear hp hnp hfull hPS hroom hby
        go_enter Try.func11, Try.ntmps11
        go_wp2_with fail
        refine (hash_any s w HSZ.out.1).mono ?_
        rintro e w1 ⟨rfl, hw⟩; replace hw := hw.symm; subst hw
        rw [HX.out]
        go_wp2_with fail
        rw [← HX.out]
        refine (search_any HI.out HF.out.1 HF.out.2.1 HSZ.out.2 s).mono ?_
        rintro e w2 ⟨rfl, hn2⟩
        have HN2 := hid hn2
        clear hn2
        rw [HP.out, HX.out]
        have HI2 := hid (HI.out.nu HN2.out)
        have HLn : Hid (∀ k, Calls Try.prog 17 #[.pointer (some ⟨b, 0, none⟩)] (w2.drewN k) fun e w' => e = .returned (.int .i64 (L.length : Int)) ∧ w' = w2.drewN k) := fun k => len_any (HI2.out.sm.nu (Mv.drewN _ _ _))
        have HBy : Hid (∀ k, Calls Try.prog 18 #[.pointer (some ⟨b, 0, none⟩)] (w2.drewN k) fun e w' => e = .returned (.int .i64 (by' : Int)) ∧ w' = w2.drewN k) := fun k => by
          rw [← HBY.out]; exact bytes_any (HI2.out.sm.nu (Mv.drewN _ _ _))
        obtain ⟨c0, c1, c2, c3, c4⟩ := cells5s HI2.out.sm.blk
        go_wp2
        go_quiet ((first | (go_at_call 17; exact Calls.quiet_of_same (HLn.out _)) | (go_at_call 18; exact Calls.quiet_of_same (HBy.out _))))
        go_wp2
        go_ret3
        exact ⟨rfl, PutOut.none HI.out (mv0 HN2.out (Mv.drewN _ _ _))⟩
      · have hPS : putS S R L s = ((L.length, true, 0), L ++ [s]) := by unfold putS; rw [if_neg hnp, if_neg (by omega)]
        have hroom' : ¬ (R : Int) - (bytesIn L : Int) < (s.size : Int) := by omega
        have HRM : Hid (bytesIn L + s.size ≤ 140737488355328) := by have := HF.out.2.2; show _ ≤ _; omega
        rw [hPS]
        obtain ⟨by', hby⟩ : ∃ n, bytesIn L = n := ⟨_, rfl⟩
        have HBY := hid hby
        rw [hby] at hsub hroom'
        clear hp hnp hfull hPS hroom hby
        go_enter Try.func11, Try.ntmps11
        go_wp2_with fail
        refine (hash_any s w HSZ.out.1).mono ?_
        rintro e w1 ⟨rfl, hw⟩; replace hw := hw.symm; subst hw
        rw [HX.out]
        go_wp2_with fail
        rw [← HX.out]
        refine (search_any HI.out HF.out.1 HF.out.2.1 HSZ.out.2 s).mono ?_
        rintro e w2 ⟨rfl, hn2⟩
        have HN2 := hid hn2
        clear hn2
        rw [HP.out, HX.out]
        have HI2 := hid (HI.out.nu HN2.out)
        have HLn : Hid (∀ k, Calls Try.prog 17 #[.pointer (some ⟨b, 0, none⟩)] (w2.drewN k) fun e w' => e = .returned (.int .i64 (L.length : Int)) ∧ w' = w2.drewN k) := fun k => len_any (HI2.out.sm.nu (Mv.drewN _ _ _))
        have HBy : Hid (∀ k, Calls Try.prog 18 #[.pointer (some ⟨b, 0, none⟩)] (w2.drewN k) fun e w' => e = .returned (.int .i64 (by' : Int)) ∧ w' = w2.drewN k) := fun k => by
          rw [← HBY.out]; exact bytes_any (HI2.out.sm.nu (Mv.drewN _ _ _))
        obtain ⟨c0, c1, c2, c3, c4⟩ := cells5s HI2.out.sm.blk
        go_wp2
        go_quiet ((first | (go_at_call 17; exact Calls.quiet_of_same (HLn.out _)) | (go_at_call 18; exact Calls.quiet_of_same (HBy.out _))))
        generalize hW3 : World.drewN w2 _ = w3
        have HN3 : Hid (Nu w w3) := by rw [← hW3]; exact mv0 HN2.out (Mv.drewN _ _ _)
        clear hW3 c0 c1 c2 c3 c4
        go_wp2_with fail
        rw [← HX.out]
        refine (add_any (HI.out.nu HN3.out) s HF.out.2.1 HRM.out).mono ?_
        rintro e w4 ⟨rfl, ⟨to', tc', ho', hc', po', pc', m', nx', hd', hsi, hnb⟩, hm⟩
        have HO : Hid (PutOut w b L S R to ho po (L ++ [s]) w4) := ⟨⟨to', tc', ho', hc', po', pc', m', nx', hd', hsi, fun x hx => (hnb x hx).imp id (fun h => Nat.le_trans HN3.out.size h)⟩, (HN3.out.mono (fun _ h => h.elim)).trans hm (fun _ h => .inl h)⟩
        clear hsi hnb hm
        go_wp2
        go_ret3
        exact ⟨rfl, HO.out⟩
end

theorem gPut (w : World) (F : Nat → Prop) (b : Nat) (L : List ByteArray) (S R : Nat) (s : ByteArray) (hst : St F w b L S R) (hf : Fine S R L) (hl : L.length ≤ 4000) (hs : s.size ≤ 140737488355328) (hRb : R ≤ 140737488355328) (hR : (R : Int) ≤ 9223372036854775807) (hS : (S : Int) ≤ 9223372036854775807) :
    Calls Try.prog 11 #[.pointer (some ⟨b, 0, none⟩), .string s] w fun e w' => ∃ F', e = .returned (.tuple #[.int .i64 ((putS S R L s).1.1 : Int), .bool (putS S R L s).1.2.1, .int .i64 ((putS S R L s).1.2.2 : Int)]) ∧ St F' w' b (putS S R L s).2 S R ∧ (∀ x, F' x → F x ∨ w.heap.size ≤ x) ∧ OnlyF F w w' := by
  obtain ⟨to, tc, ho, hc, po, pc, m, nx, hd, h, hF⟩ := hst
  exact (putBig_any h hf hl s hs hRb hR hS).mono fun e w' ⟨he, ⟨to', tc', ho', hc', po', pc', m', nx', hd', h', hnb⟩, hm⟩ =>
    ⟨SB b to' ho' po', he, ⟨to', tc', ho', hc', po', pc', m', nx', hd', h', fun _ => Iff.rfl⟩, fun x hx => (hnb x hx).imp (hF x).2 id, only_of (hm.mono (fun x hx => .inl ((hF x).2 hx)))⟩

end Go.Proofs.Ytmpbganbhoknpaa
