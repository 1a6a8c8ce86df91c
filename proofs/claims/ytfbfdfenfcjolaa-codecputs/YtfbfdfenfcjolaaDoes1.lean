/-
  What the statement's own step does: kind 1.
-/
import Derived.Test.YtfbfdfenfcjolaaDoes
namespace Go.Proofs.Ytfbfdfenfcjolaa
open Go.RowKit

theorem iwrap_lo (n : Int) : -9223372036854775808 ≤ IntKind.i64.wrap n := by rw [IntKind.wrap_i64]; omega
theorem iwrap_hi (n : Int) : IntKind.i64.wrap n ≤ 9223372036854775807 := by rw [IntKind.wrap_i64]; omega

set_option maxHeartbeats 1600000 in
set_option maxRecDepth 20000 in
theorem does_kind1 (W : World) {bb xb B : Nat} {ab : Option Addr} {cb : Nat} {bs : List UInt8} {room : Nat} (h : Pair W bb xb ab cb bs room) (hB : B ≤ bb) (x : Item) (hx : x.Ok) (hk : pickN x.kind 5 = 1) :
    Calls Try.prog 12 #[.pointer (some ⟨bb, 0, none⟩), .pointer (some ⟨xb, 0, none⟩), .agg #[.int .i64 x.kind, .int .u64 (x.n : Int), .int .i64 x.size, .string x.text]] W (DidOk B W bb xb room) := by
  have hp := fun W => pick_any x.kind 5 W hx.k0 hx.k1 (by omega) (by omega)
  rw [hk] at hp
  have HP : Hid _ := hp
  clear hp hk
  have hPA := h.kept (Kept.alloc [] W (.cells #[.int .i64 x.kind, .int .u64 (x.n : Int), .int .i64 x.size, .string x.text] 31))
  have HPA : Hid _ := hPA
  have HH : Hid _ := h
  obtain ⟨c, hc⟩ : ∃ c, putCode room bs (encU (foldN (IntKind.i64.wrap (x.n : Int)))) = c := ⟨_, rfl⟩
  have HC : Hid _ := hc
  have HL : Hid ((encU (foldN (IntKind.i64.wrap (x.n : Int)))).length ≤ 140737488355400) := by have := foldN_lt (iwrap_lo (x.n : Int)) (iwrap_hi (x.n : Int)); have := encU_ten (n := foldN (IntKind.i64.wrap (x.n : Int))) (by omega); show _ ≤ _; omega
  clear hPA h hx hc
  go_enter Try.func12, Try.ntmps12
  go_wp2_with fail
  refine (HP.out _).mono ?_
  rintro e w' ⟨rfl, hw⟩; replace hw := hw.symm; subst hw
  clear HP
  go_wp2
  go_region_with (first
    | (go_at_call 31; refine (bInt_any _ _ (iwrap_lo _) (iwrap_hi _) (bb := bb) (ao := ab) (cap := cb) (bs := bs) (room := room) ?_).mono ?_; exact ⟨HPA.out.b.blk, HPA.out.b.row, HPA.out.b.le, HPA.out.b.rm⟩; rw [HC.out]; rintro e w2 ⟨rfl, hp0⟩; have hp := PutsTo.ahead (w := W.alloc (.cells #[.int .i64 x.kind, .int .u64 (x.n : Int), .int .i64 x.size, .string x.text] 31)) (by repeat (first | exact Kept.refl _ _ | refine Kept.trans ?_ (Kept.drew [] _) (by simp) | refine Kept.trans ?_ (Kept.drewN [] _ _) (by simp))) hp0; have hbx := cell_blk (HH.out.box hp) 1; simp at hbx; clear hp0)
    | (go_at_call 37; refine (Signed_any _ _ (iwrap_lo _) (iwrap_hi _)).mono ?_; rintro e w3 ⟨rfl, hk30⟩; have hk3 : Kept [] w2 w3 := Kept.trans (by repeat (first | exact Kept.refl _ _ | refine Kept.trans ?_ (Kept.drew [] _) (by simp) | refine Kept.trans ?_ (Kept.drewN [] _ _) (by simp))) hk30 (by simp); have hx3 := (HPA.out.x1 hp).kept hk3 (by simp); clear hk30)
    | (go_at_call 35; refine (xPut_str _ (xb := xb) (bs := bs) (room := room) ?_ (encU (foldN (IntKind.i64.wrap (x.n : Int)))) HL.out).mono ?_; exact ⟨hx3.blk, hx3.le, hx3.rm⟩; rw [HC.out]; rintro e w4 ⟨rfl, hx4, hk40⟩; have hk4 : Kept [xb] w3 w4 := Kept.trans (Kept.mono (S := []) (T := [xb]) (by repeat (first | exact Kept.refl _ _ | refine Kept.trans ?_ (Kept.drew [] _) (by simp) | refine Kept.trans ?_ (Kept.drewN [] _ _) (by simp))) (by simp)) hk40 (fun y hy => .inl hy); clear hk40))
  all_goals go_wp2
  all_goals go_ret
  all_goals refine ⟨rfl, ?_⟩
  all_goals obtain ⟨⟨ab', cb', hP⟩, hBl⟩ := HPA.out.both hp hk3 hx4 hk4 hB
  all_goals exact ⟨ab', cb', _, ⟨⟨hP.b.blk, hP.b.row, hP.b.le, hP.b.rm⟩, ⟨hP.x.blk, hP.x.le, hP.x.rm⟩, hP.ne, hP.ao⟩, below_box HH.out hB hBl (by repeat (first | exact Kept.refl _ _ | refine Kept.trans ?_ (Kept.drew [] _) (by simp) | refine Kept.trans ?_ (Kept.drewN [] _ _) (by simp)))⟩

end Go.Proofs.Ytfbfdfenfcjolaa
