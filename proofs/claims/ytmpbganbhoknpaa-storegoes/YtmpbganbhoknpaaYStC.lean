/-
  What Put, Find and Get do; the contracts of the program's functions.
-/
import Derived.Test.YtmpbganbhoknpaaYStA
set_option linter.unusedVariables false
set_option linter.unusedSimpArgs false
namespace Go.Proofs.Ytmpbganbhoknpaa
open Go.RowKit

/-- The store, in the blocks F. -/
def St (F : Nat → Prop) (w : World) (b : Nat) (L : List ByteArray) (S R : Nat) : Prop :=
  ∃ to tc ho hc po pc m nx hd, StI w b L S R to tc ho hc po pc m nx hd ∧ ∀ x, F x ↔ SB b to ho po x

theorem own_keep {F : Nat → Prop} {w w' : World} (hk : KeepF F w w') {base : Nat} {e : TypeId} {size : Nat} {v : Value} {n : Nat} {xs : List Value} (h : w.ownsRow base e size v n xs) (hn : ∀ k, v.ownBlock = some k → F k) : w'.ownsRow base e size v n xs :=
  ⟨h.1, h.2.imp id fun ⟨g, cap, cur, hv, hb, hg, r⟩ => ⟨g, cap, cur, hv, hb, (hk.2 g (hn g (by rw [hv]; rfl))).trans hg, r⟩⟩
theorem St.frame {F : Nat → Prop} {w w' : World} {b : Nat} {L : List ByteArray} {S R : Nat} (h : St F w b L S R) (hk : KeepF F w w') : St F w' b L S R := by
  obtain ⟨to, tc, ho, hc, po, pc, m, nx, hd, h, hF⟩ := h
  refine ⟨to, tc, ho, hc, po, pc, m, nx, hd, ⟨⟨(hk.2 b ((hF b).2 (.inl rfl))).trans h.sm.blk, own_keep hk h.sm.tx (fun k e => (hF k).2 (.inr (.inl (own_blk e)))), own_keep hk h.sm.hl (fun k e => (hF k).2 (.inr (.inr (.inl (own_blk e))))), own_keep hk h.sm.hp (fun k e => (hF k).2 (.inr (.inr (.inr (own_blk e)))))⟩, h.ch, h.m0, h.m1⟩, hF⟩
theorem St.lt {F : Nat → Prop} {w : World} {b : Nat} {L : List ByteArray} {S R : Nat} (h : St F w b L S R) {x : Nat} (hx : F x) : x < w.heap.size := by
  obtain ⟨to, tc, ho, hc, po, pc, m, nx, hd, h, hF⟩ := h
  exact h.sm.lt ((hF x).1 hx)
theorem only_of {F : Nat → Prop} {w w' : World} (h : Mv F w w') : OnlyF F w w' := ⟨h.os, h.tape, h.output, h.size, h.block⟩
theorem St.nu {F : Nat → Prop} {w w' : World} {b : Nat} {L : List ByteArray} {S R : Nat} (h : St F w b L S R) (hn : Nu w w') : St F w' b L S R := h.frame ⟨hn.size, fun x hx => hn.block x (h.lt hx) id⟩

section
variable {w : World} {b : Nat} {L : List ByteArray} {S R : Nat} {to : Option Addr} {tc : Nat} {ho : Option Addr} {hc : Nat} {po : Option Addr} {pc m : Nat} {nx hd : Nat → Int}

theorem size_le {L : List ByteArray} {s : ByteArray} (h : s ∈ L) : s.size ≤ bytesIn L := by
  induction L with
  | nil => cases h
  | cons x r ih =>
    rw [bytesIn]
    rcases List.mem_cons.1 h with rfl | h
    · omega
    · have := ih h; omega

set_option maxHeartbeats 4000000 in
set_option maxRecDepth 20000 in
theorem find_any (h : StI w b L S R to tc ho hc po pc m nx hd) (hf : Fine S R L) (hl : L.length ≤ 4000) (hb : bytesIn L ≤ 140737488355328) (s : ByteArray) (hs : s.size ≤ 140737488355328) :
    Calls Try.prog 13 #[.pointer (some ⟨b, 0, none⟩), .string s] w fun e w' => e = .returned (.tuple #[.int .i64 ((fnd L s).1 : Int), .bool (fnd L s).2]) ∧ Nu w w' := by
  have HI := hid h
  have HF := hid (And.intro hf (And.intro hl hb))
  have HS := hid hs
  clear h hf hl hb hs
  cases hp : (fnd L s).2 with
  | true =>
    obtain ⟨k, hk⟩ : ∃ k, (fnd L s).1 = k := ⟨_, rfl⟩
    have HP : Hid (srN L s = (k : Int)) := by rw [← hk]; exact if_pos hp
    have hne : (((k : Nat) : Int) == -1) = false := by simp
    rw [hk]
    clear hp hk
    go_enter Try.func13, Try.ntmps13
    go_wp2_with fail
    refine (hash_any s w HS.out).mono ?_
    rintro e w1 ⟨rfl, hw⟩; replace hw := hw.symm; subst hw
    go_wp2_with fail
    refine (search_any HI.out HF.out.1 HF.out.2.1 HF.out.2.2 s).mono ?_
    rintro e w2 ⟨rfl, hn2⟩
    have HN2 := hid hn2
    clear hn2
    rw [HP.out]
    go_wp2
    go_ret2
    exact ⟨rfl, HN2.out⟩
  | false =>
    have hz : (fnd L s).1 = 0 := by
      have : s ∉ L := fun hm => by rw [fnd_yes hm] at hp; cases hp
      rw [fnd_no this]
    have HP : Hid (srN L s = -1) := if_neg (by rw [hp]; simp)
    rw [hz]
    clear hp hz
    go_enter Try.func13, Try.ntmps13
    go_wp2_with fail
    refine (hash_any s w HS.out).mono ?_
    rintro e w1 ⟨rfl, hw⟩; replace hw := hw.symm; subst hw
    go_wp2_with fail
    refine (search_any HI.out HF.out.1 HF.out.2.1 HF.out.2.2 s).mono ?_
    rintro e w2 ⟨rfl, hn2⟩
    have HN2 := hid hn2
    clear hn2
    rw [HP.out]
    go_wp2
    go_ret2
    exact ⟨rfl, HN2.out⟩

set_option maxHeartbeats 4000000 in
set_option maxRecDepth 20000 in
theorem get_any (h : StI w b L S R to tc ho hc po pc m nx hd) (hl : L.length ≤ 4000) (hb : bytesIn L ≤ 140737488355328) (n : Int) :
    Calls Try.prog 15 #[.pointer (some ⟨b, 0, none⟩), .int .i64 n] w fun e w' => e = .returned (.tuple #[.string (getS L n).1, .bool (getS L n).2]) ∧ Nu w w' := by
  have HI := hid h
  have HL := hid (And.intro hl hb)
  have HLn : Hid (∀ k, Calls Try.prog 17 #[.pointer (some ⟨b, 0, none⟩)] (w.drewN k) fun e w' => e = .returned (.int .i64 (L.length : Int)) ∧ w' = w.drewN k) := fun k => len_any (h.sm.nu (Mv.drewN _ _ _))
  have HL0 : Hid (Calls Try.prog 17 #[.pointer (some ⟨b, 0, none⟩)] w fun e w' => e = .returned (.int .i64 (L.length : Int)) ∧ w' = w) := len_any h.sm
  clear h hl hb
  rcases Int.lt_or_le n 0 with hn | hn
  · have HG : Hid (getS L n = (⟨#[]⟩, false)) := by show _ = _; unfold getS; rw [if_neg (by omega)]
    rw [HG.out]
    go_enter Try.func15, Try.ntmps15
    go_wp2
    go_ret2
    exact ⟨rfl, Mv.refl _ _⟩
  · have hn' : ¬ n < 0 := by omega
    rcases Int.lt_or_le n (L.length : Int) with hlt | hge
    · have hge' : ¬ (L.length : Int) ≤ n := by omega
      obtain ⟨i, hi⟩ : ∃ i : Nat, n = (i : Int) := ⟨n.toNat, by omega⟩
      subst hi
      have hiL : i < L.length := by omega
      obtain ⟨s, hs⟩ : ∃ s, L[i]? = some s := ⟨_, List.getElem?_eq_getElem hiL⟩
      have HG : Hid (getS L (i : Int) = (s, true)) := by show _ = _; unfold getS; rw [if_pos (by omega), Int.toNat_natCast, hs]
      rw [HG.out]
      have HS := hid hs
      clear hs hiL
      go_enter Try.func15, Try.ntmps15
      go_wp2_with (go_at_call 17; refine HL0.out.mono ?_; rintro e w1 ⟨rfl, hw⟩; replace hw := hw.symm; subst hw)
      go_wp2_with fail
      refine (piece_any HI.out.sm HS.out (by have := HL.out; omega) HL.out.2).mono ?_
      rintro e w3 ⟨rfl, n3, hw3⟩
      have HN3 : Hid (Nu w w3) := by rw [hw3]; exact Mv.drewN _ _ _
      have hcv := (HI.out.sm.nu HN3.out).piece HS.out
      generalize pieceV to tc L i = pv at *
      clear hw3
      go_wp2
      go_ret2
      exact ⟨rfl, HN3.out⟩
    · have HG : Hid (getS L n = (⟨#[]⟩, false)) := by
        show _ = _
        unfold getS
        rw [if_pos hn, List.getElem?_eq_none (by omega)]
      rw [HG.out]
      go_enter Try.func15, Try.ntmps15
      go_wp2_with (go_at_call 17; refine HL0.out.mono ?_; rintro e w1 ⟨rfl, hw⟩; replace hw := hw.symm; subst hw)
      go_wp2
      go_ret2
      exact ⟨rfl, Mv.refl _ _⟩
end
end Go.Proofs.Ytmpbganbhoknpaa
