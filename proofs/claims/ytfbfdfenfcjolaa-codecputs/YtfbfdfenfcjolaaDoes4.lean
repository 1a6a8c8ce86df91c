/-
  What the statement's own step does: kind 4.
-/
import Derived.Test.YtfbfdfenfcjolaaDoes2
namespace Go.Proofs.Ytfbfdfenfcjolaa
open Go.RowKit

set_option maxHeartbeats 1600000 in
set_option maxRecDepth 20000 in
theorem does_kind4 (W : World) {bb xb B : Nat} {ab : Option Addr} {cb : Nat} {bs : List UInt8} {room : Nat} (h : Pair W bb xb ab cb bs room) (hB : B ≤ bb) (x : Item) (hx : x.Ok) (hk : pickN x.kind 5 = 4) :
    Calls Try.prog 12 #[.pointer (some ⟨bb, 0, none⟩), .pointer (some ⟨xb, 0, none⟩), .agg #[.int .i64 x.kind, .int .u64 (x.n : Int), .int .i64 x.size, .string x.text]] W (DidOk B W bb xb room) := by
  have hp := fun W => pick_any x.kind 5 W hx.k0 hx.k1 (by omega) (by omega)
  rw [hk] at hp
  have HP : Hid _ := hp
  clear hp hk
  have hPA := h.kept (Kept.alloc [] W (.cells #[.int .i64 x.kind, .int .u64 (x.n : Int), .int .i64 x.size, .string x.text] 31))
  have HPA : Hid _ := hPA
  have HH : Hid _ := h
  have HT : Hid (x.text.size ≤ 140737488351232) := hx.t1
  clear hPA h hx
  cases hlf : hasLF x.text with
  | true =>
    go_enter Try.func12, Try.ntmps12
    go_wp2_with fail
    refine (HP.out _).mono ?_
    rintro e w' ⟨rfl, hw⟩; replace hw := hw.symm; subst hw
    go_wp2_with fail
    refine (Has_any _ _ (by have := HT.out; omega)).mono ?_
    rw [hlf]
    rintro e w' ⟨rfl, hw⟩; replace hw := hw.symm; subst hw
    go_wp2_with fail
    refine (bLine_arg _ _ _ hlf).mono ?_
    rintro e w' ⟨rfl, hw⟩; replace hw := hw.symm; subst hw
    go_wp2
    go_ret
    exact ⟨rfl, did_none HH.out hB (Kept.alloc [] W _)⟩
  | false =>
    obtain ⟨c, hc⟩ : ∃ c, putCode room bs (lineN x.text) = c := ⟨_, rfl⟩
    have HC : Hid _ := hc
    have HL : Hid ((lineN x.text).length ≤ 140737488355400) := by have := HT.out; show _ ≤ _; rw [lineN_length]; omega
    have hsz : x.text.size + (⟨#[10]⟩ : ByteArray).size ≤ 9223372036854775807 := by have := HT.out; show x.text.size + 1 ≤ _; omega
    have HAB : Hid (x.text ++ (⟨#[10]⟩ : ByteArray) = strOf (lineN x.text)) := by
      show _ = _
      apply ByteArray.ext
      apply Array.ext'
      simp [strOf, lineN, bytesOf]
    have HLF : Hid _ := hlf
    clear hc hlf
    go_enter Try.func12, Try.ntmps12
    go_wp2_with fail
    refine (HP.out _).mono ?_
    rintro e w' ⟨rfl, hw⟩; replace hw := hw.symm; subst hw
    go_wp2_with fail
    refine (Has_any _ _ (by have := HT.out; omega)).mono ?_
    rw [HLF.out]
    rintro e w' ⟨rfl, hw⟩; replace hw := hw.symm; subst hw
    have hx2 := HPA.out.x
    go_wp2_with fail
    rw [HAB.out]
    refine (xPut_str _ hx2 (lineN x.text) HL.out).mono ?_
    rw [HC.out]
    rintro e w3 ⟨rfl, hx3, hk3⟩
    have hb3 := HPA.out.b2 hk3
    have hxl := HH.out.x.lt
    have hbk3 := hk3.heap (heap_alloc_new W (.cells #[.int .i64 x.kind, .int .u64 (x.n : Int), .int .i64 x.size, .string x.text] 31)) (by simp; omega)
    have d3 := cell_blk hbk3 3
    simp at d3
    go_wp2_with fail
    refine (bLine_any x.text _ (by have := HT.out; omega) HLF.out hb3).mono ?_
    rw [HC.out]
    rintro e w4 ⟨rfl, hp4⟩
    obtain ⟨⟨ab', cb', hP⟩, hBl⟩ := HPA.out.both2 hx3 hk3 hp4 hB
    have hBl2 := below_box HH.out hB hBl (Kept.refl [] _)
    clear hp4 hx3 hk3 hb3 hbk3 hx2 d3
    go_wp2
    go_ret
    exact ⟨rfl, ab', cb', _, hP, hBl2⟩

end Go.Proofs.Ytfbfdfenfcjolaa
