/-
  What ranging over All does: the states of the store, in order, as they are there when they are asked for.
-/
import Derived.Test.YtmpbganbhoknpaaYStPut
import Derived.Test.YtmpbganbhoknpaaYNoth
set_option linter.unusedVariables false
set_option linter.unusedSimpArgs false
namespace Go.Proofs.Ytmpbganbhoknpaa
open Go.RowKit Go.Shelf
attribute [local go_sem] Oper.semAt_some

/-- The store that an iterator holds: which box it lies in, which texts it holds. -/
structure CL (b Bn : Nat) (L : List ByteArray) (A : World) : Prop where
  sm : ∃ S R to tc ho hc po pc m nx hd, SM A b L S R to tc ho hc po pc m nx hd
  box : A.cell? ⟨Bn, 0, none⟩ = some (.pointer (some ⟨b, 0, none⟩))
  len : L.length ≤ 4000
  room : bytesIn L ≤ 140737488355328

theorem CL.nu {b Bn : Nat} {L : List ByteArray} {A A' : World} (h : CL b Bn L A) (hn : Nu A A') : CL b Bn L A' := by
  obtain ⟨S, R, to, tc, ho, hc, po, pc, m, nx, hd, hs⟩ := h.sm
  exact ⟨⟨S, R, to, tc, ho, hc, po, pc, m, nx, hd, hs.nu hn⟩, cell_mv hn h.box id, h.len, h.room⟩

set_option maxHeartbeats 4000000 in
set_option maxRecDepth 100000 in
theorem all1_any (n : Nat) (hn : 1 ≤ n) (b Bn l : Nat) (Lf : Nat → List ByteArray) (J : Nat → World → Prop) (Jx : World → Prop) (W : World) (hN : ∀ k A A', J k A → Nu A A' → J k A') (hC : ∀ k A, J k A → CL b Bn (Lf k) A ∧ k ≤ (Lf k).length)
    (hY : ∀ k s A, J k A → (Lf k)[k]? = some s → YieldAt Fence.wide (n - 1) Try.prog l (encP (k, s)) A fun e W' => (e = .returned (.bool true) ∧ J (k + 1) W') ∨ (e = .returned (.bool false) ∧ Jx W')) (h0 : J 0 W) :
    CallsIn Fence.wide n Try.prog 26 (#[.func (.yield l) #[] #[]] ++ #[.pointer (some ⟨Bn, 0, none⟩)]) W fun e W' => (∃ v, e = .returned v) ∧ ((∃ k, J k W' ∧ k = (Lf k).length) ∨ Jx W') := by
  have HN := hid hN
  have HC := hid hC
  have HY := hid hY
  have H0 := hid h0
  clear hN hC hY h0
  refine callsIn_of_wp Try.func26 rfl trivial ?_ rfl
  simp only [Try.ntmps26, List.size_toArray, List.length_cons, List.length_nil, Nat.reduceAdd, Nat.reduceSub, Array.replicate_succ, Array.replicate_zero, List.push_toArray, List.append_toArray, List.nil_append, List.cons_append]
  gi_wp2
  gi_loopw [3] (fun nv wr => ∃ k : Nat, k ≤ 4000 ∧ nv = .int .i64 (k : Int) ∧ Hid (J k wr)) (fun nv _ => 4000 - (intOf nv).toNat)
  case atStart => exact ⟨0, Nat.zero_le _, rfl, H0⟩
  case round =>
    obtain ⟨k, hk, rfl, HJ⟩ := hrel
    obtain ⟨hcl, hkl⟩ := HC.out k _ HJ.out
    obtain ⟨L, hL⟩ : ∃ L, Lf k = L := ⟨_, rfl⟩
    rw [hL] at hcl hkl
    have HLF := hid hL
    clear hL
    have hbox := hcl.box
    have HCL := hid hcl
    have hlen := hcl.len
    obtain ⟨S, R, to, tc, ho, hc, po, pc, m, nx, hd, hsm⟩ := hcl.sm
    have HSM := hid hsm
    clear hcl hsm
    rcases Nat.lt_or_ge k L.length with hlt | hge
    · have hlt' : (k : Int) < (L.length : Int) := by omega
      obtain ⟨s, hs⟩ : ∃ s, L[k]? = some s := ⟨_, List.getElem?_eq_getElem hlt⟩
      have HS := hid hs
      have HLT : Hid (k < 4000) := by show _ < _; omega
      clear hs hlt hkl
      gi_wp2_with (first
        | (refine ⟨trivial, ?_⟩; gi_at_call 17; refine (callsIn_wide.2 (len_any HSM.out)).mono ?_; rintro e w1 ⟨rfl, hw⟩; replace hw := hw.symm; subst hw))
      refine ⟨trivial, ?_⟩
      refine (callsIn_wide.2 (piece_any HSM.out HS.out (by omega) (HCL.out.room))).mono ?_
      rintro e w3 ⟨rfl, n3, hw3⟩
      have HN3 : Hid (Nu wr w3) := by rw [hw3]; exact Mv.drewN _ _ _
      have hcv := (HSM.out.nu HN3.out).piece HS.out
      generalize pieceV to tc L k = pv at *
      clear hw3
      gi_wp2
      obtain ⟨fn, tmps, assign, body, hy, hR⟩ := HY.out k s w3 (HN.out _ _ _ HJ.out HN3.out) (by rw [HLF.out]; exact HS.out)
      unfold encP at hy
      rw [hy, Oper.uponIn_round]
      refine ⟨fun _ => hn, hR.mono ?_⟩
      rintro e W3 (⟨rfl, hJ3⟩ | ⟨rfl, hJx3⟩)
      · gi_wp2
        go_roundw
        case rel => exact ⟨k + 1, HLT.out, by go_num, hJ3⟩
        case measure => have := HLT.out; simp [intOf]; omega
      · gi_wp2
        refine bodyPost_ret (results_none rfl _ _ _) rfl ?_
        exact ⟨⟨_, rfl⟩, .inr hJx3⟩
    · have HKE : Hid (k = L.length) := by show _ = _; omega
      have hge' : ¬ (k : Int) < (L.length : Int) := by omega
      gi_wp2_with (first
        | (refine ⟨trivial, ?_⟩; gi_at_call 17; refine (callsIn_wide.2 (len_any HSM.out)).mono ?_; rintro e w1 ⟨rfl, hw⟩; replace hw := hw.symm; subst hw))
      exact bodyPost_end (results_none rfl _ _ _) rfl ⟨⟨_, rfl⟩, .inl ⟨_, HJ.out, by rw [HLF.out]; exact HKE.out⟩⟩

end Go.Proofs.Ytmpbganbhoknpaa
