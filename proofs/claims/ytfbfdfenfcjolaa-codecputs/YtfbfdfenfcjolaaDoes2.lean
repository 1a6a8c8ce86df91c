/-
  What the statement's own step does: kind 2.
-/
import Derived.Test.YtfbfdfenfcjolaaDoes
namespace Go.Proofs.Ytfbfdfenfcjolaa
open Go.RowKit

/-- First the reference's, then the program's. -/
theorem Pair.both2 {W W2 W3 : World} {bb xb B : Nat} {ab : Option Addr} {cb : Nat} {bs ds : List UInt8} {room : Nat} (h : Pair W bb xb ab cb bs room)
    (hx : XBuf W2 xb (after room bs ds) room) (hk2 : Kept [xb] W W2) (hp : PutsTo W2 W3 bb ab bs ds room) (hB : B ≤ bb) : (∃ ab' cb', Pair W3 bb xb ab' cb' (after room bs ds) room) ∧ Below B W W3 := by
  have hxl := h.x.lt
  have hne := h.ne
  have hs2 := hk2.size
  have hb2 : BufIs 70 W2 bb ab cb bs room := h.b.kept hk2 (by simp; omega) (fun a ha => by have := h.ao a ha; simp; omega)
  have hb3 := (hp.below hb2 hB).1
  have hx3 : XBuf W3 xb (after room bs ds) room := by
    obtain ⟨_, _, _, hk, _⟩ := hp
    refine hx.kept hk ?_
    simp only [List.mem_cons, not_or]
    refine ⟨by omega, fun hy => ?_⟩
    obtain ⟨a, h1, h2⟩ := rowOf_mem hy
    have := h.ao a h1
    omega
  obtain ⟨ab', cb', hb, _, hm⟩ := hp
  have hao : ∀ a, ab' = some a → xb < a.block := fun a ha => by
    rcases hm with e | e
    · exact h.ao a (by rw [← e]; exact ha)
    · have := e a ha; omega
  exact ⟨⟨ab', cb', hb, hx3, hne, hao⟩, (hk2.from (by have := h.b.lt; omega) (by simp; omega)).trans hb3⟩

theorem Pair.b2 {W W2 : World} {bb xb : Nat} {ab : Option Addr} {cb : Nat} {bs : List UInt8} {room : Nat} (h : Pair W bb xb ab cb bs room) (hk2 : Kept [xb] W W2) : BufIs 70 W2 bb ab cb bs room := by
  have hne := h.ne
  exact h.b.kept hk2 (by simp; omega) (fun a ha => by have := h.ao a ha; simp; omega)

theorem did_none {B : Nat} {W W' : World} {bb xb : Nat} {ab : Option Addr} {cb : Nat} {bs : List UInt8} {room : Nat} (h : Pair W bb xb ab cb bs room) (hB : B ≤ bb) (hk : Kept [] W W') : ∃ ab' cb' bs', Pair W' bb xb ab' cb' bs' room ∧ Below B W W' :=
  ⟨ab, cb, bs, h.kept hk, hk.from (by have := h.b.lt; omega) (by simp)⟩

set_option maxHeartbeats 1600000 in
set_option maxRecDepth 20000 in
theorem does_kind2 (W : World) {bb xb B : Nat} {ab : Option Addr} {cb : Nat} {bs : List UInt8} {room : Nat} (h : Pair W bb xb ab cb bs room) (hB : B ≤ bb) (x : Item) (hx : x.Ok) (hk : pickN x.kind 5 = 2) :
    Calls Try.prog 12 #[.pointer (some ⟨bb, 0, none⟩), .pointer (some ⟨xb, 0, none⟩), .agg #[.int .i64 x.kind, .int .u64 (x.n : Int), .int .i64 x.size, .string x.text]] W (DidOk B W bb xb room) := by
  have hp := fun W => pick_any x.kind 5 W hx.k0 hx.k1 (by omega) (by omega)
  rw [hk] at hp
  have HP : Hid _ := hp
  clear hp hk
  have hPA := h.kept (Kept.alloc [] W (.cells #[.int .i64 x.kind, .int .u64 (x.n : Int), .int .i64 x.size, .string x.text] 31))
  have HPA : Hid _ := hPA
  have HH : Hid _ := h
  have HN : Hid _ := hx.n1
  clear hPA h
  have hs0 := hx.s0
  have hs1 := hx.s1
  clear hx
  by_cases hs : isSizeB x.size = true
  · have hsz := isSizeB_le hs
    obtain ⟨k, hk⟩ := Int.eq_ofNat_of_zero_le (by omega : 0 ≤ x.size)
    rw [hk] at hs HPA ⊢
    have Hk8 : Hid ((k : Int) ≤ 8) := by show _ ≤ _; omega
    have Hk0 : Hid (0 < k) := by show _ < _; omega
    clear hk hsz hs0 hs1
    have hbx := fun i => cell_blk (heap_alloc_new W (.cells #[.int .i64 x.kind, .int .u64 (x.n : Int), .int .i64 (k : Int), .string x.text] 31)) i
    cases hz : (((x.n / 2 ^ (8 * k) : Nat) : Int) == 0) with
    | false =>
      have HB : Hid (((x.n : Int) / 2 ^ (8 * k) != 0) = true) := by
        show _ = _
        have : ¬ (x.n / 2 ^ (8 * k) : Nat) = 0 := fun e => by rw [e] at hz; simp at hz
        have e2 : ((x.n : Int) / 2 ^ (8 * k)) = ((x.n / 2 ^ (8 * k) : Nat) : Int) := by rw [Int.natCast_ediv, Int.natCast_pow]; rfl
        rw [e2, bne_iff_ne]
        omega
      have HZ : Hid _ := hz
      clear hz hbx
      go_enter Try.func12, Try.ntmps12
      go_wp2_with fail
      refine (HP.out _).mono ?_
      rintro e w' ⟨rfl, hw⟩; replace hw := hw.symm; subst hw
      go_wp2_with fail
      refine (fixedRef_any x.n k _ HN.out hs Hk8.out Hk0.out).mono ?_
      rw [HZ.out]
      rintro e w2 ⟨rfl, hk2⟩
      have d1 := cell_blk (hk2.heap (heap_alloc_new W _) (by simp)) 1
      have d2 := cell_blk (hk2.heap (heap_alloc_new W _) (by simp)) 2
      simp at d1 d2
      go_wp2_with fail
      refine (bFixed_big _ x.n k _ hs Hk8.out HB.out).mono ?_
      rintro e w' ⟨rfl, hw⟩; replace hw := hw.symm; subst hw
      go_wp2
      go_ret
      exact ⟨rfl, did_none HH.out hB ((Kept.alloc [] W _).trans hk2 (by simp))⟩
    | true =>
      have HB : Hid (((x.n : Int) / 2 ^ (8 * k) != 0) = false) := by
        show _ = _
        have : (x.n / 2 ^ (8 * k) : Nat) = 0 := by have := beq_iff_eq.1 hz; omega
        have e2 : ((x.n : Int) / 2 ^ (8 * k)) = ((x.n / 2 ^ (8 * k) : Nat) : Int) := by rw [Int.natCast_ediv, Int.natCast_pow]; rfl
        rw [e2, this]; rfl
      have HZ : Hid _ := hz
      obtain ⟨c, hc⟩ : ∃ c, putCode room bs (fixedN k x.n) = c := ⟨_, rfl⟩
      have HC : Hid _ := hc
      have HL : Hid ((fixedN k x.n).length ≤ 140737488355400) := by have := Hk8.out; show _ ≤ _; rw [fixedN_length]; omega
      clear hz hbx hc
      go_enter Try.func12, Try.ntmps12
      go_wp2_with fail
      refine (HP.out _).mono ?_
      rintro e w' ⟨rfl, hw⟩; replace hw := hw.symm; subst hw
      go_wp2_with fail
      refine (fixedRef_any x.n k _ HN.out hs Hk8.out Hk0.out).mono ?_
      rw [HZ.out]
      rintro e w2 ⟨rfl, hk2⟩
      have hP2 := HPA.out.kept hk2
      have hx2 := hP2.x
      have hbk2 := hk2.heap (heap_alloc_new W (.cells #[.int .i64 x.kind, .int .u64 (x.n : Int), .int .i64 (k : Int), .string x.text] 31)) (by simp)
      go_wp2_with fail
      refine (xPut_str _ hx2 (fixedN k x.n) HL.out).mono ?_
      rw [HC.out]
      rintro e w3 ⟨rfl, hx3, hk3⟩
      have hb3 := hP2.b2 hk3
      have hxl := HH.out.x.lt
      have hbk3 := hk3.heap hbk2 (by simp; omega)
      have d1 := cell_blk hbk3 1
      have d2 := cell_blk hbk3 2
      simp at d1 d2
      go_wp2_with fail
      refine (bFixed_any x.n k _ hs HB.out hb3).mono ?_
      rw [HC.out]
      rintro e w4 ⟨rfl, hp4⟩
      obtain ⟨⟨ab', cb', hP⟩, hBl⟩ := hP2.both2 hx3 hk3 hp4 hB
      have hBl2 := below_box HH.out hB (hk2.from (B := B) (by have := HPA.out.b.lt; omega) (by simp)) (Kept.refl [] _)
      clear hp4 hx3 hk3 hb3 hbk3 hbk2 hx2 d1 d2
      go_wp2
      go_ret
      exact ⟨rfl, ab', cb', _, hP, hBl2.trans hBl⟩
  · have hs' : isSizeB x.size = false := by simpa using hs
    go_enter Try.func12, Try.ntmps12
    go_wp2_with fail
    refine (HP.out _).mono ?_
    rintro e w' ⟨rfl, hw⟩; replace hw := hw.symm; subst hw
    go_wp2_with fail
    refine (fixedRef_arg _ _ _ hs').mono ?_
    rintro e w2 ⟨rfl, hw⟩; replace hw := hw.symm; subst hw
    go_wp2_with fail
    refine (bFixed_arg _ _ _ _ hs').mono ?_
    rintro e w' ⟨rfl, hw⟩; replace hw := hw.symm; subst hw
    go_wp2
    go_ret
    exact ⟨rfl, did_none HH.out hB (Kept.alloc [] W _)⟩

end Go.Proofs.Ytfbfdfenfcjolaa
