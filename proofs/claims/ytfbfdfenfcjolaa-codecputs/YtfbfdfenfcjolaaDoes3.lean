/-
  What the statement's own step does: kind 3.
-/
import Derived.Test.YtfbfdfenfcjolaaDoes
namespace Go.Proofs.Ytfbfdfenfcjolaa
open Go.RowKit

set_option maxHeartbeats 16000000 in
set_option maxRecDepth 20000 in
theorem does_kind3 (W : World) {bb xb B : Nat} {ab : Option Addr} {cb : Nat} {bs : List UInt8} {room : Nat} (h : Pair W bb xb ab cb bs room) (hB : B ≤ bb) (x : Item) (hx : x.Ok) (hk : pickN x.kind 5 = 3) :
    Calls Try.prog 12 #[.pointer (some ⟨bb, 0, none⟩), .pointer (some ⟨xb, 0, none⟩), .agg #[.int .i64 x.kind, .int .u64 (x.n : Int), .int .i64 x.size, .string x.text]] W (DidOk B W bb xb room) := by
  have hp := fun W => pick_any x.kind 5 W hx.k0 hx.k1 (by omega) (by omega)
  rw [hk] at hp
  have HP : Hid _ := hp
  clear hp hk
  have hPA := h.kept (Kept.alloc [] W (.cells #[.int .i64 x.kind, .int .u64 (x.n : Int), .int .i64 x.size, .string x.text] 31))
  have HPA : Hid _ := hPA
  have HH : Hid _ := h
  have HT : Hid (x.text.size ≤ 140737488355328) := by have := hx.t1; show _ ≤ _; omega
  obtain ⟨c, hc⟩ : ∃ c, putCode room bs (textN x.text) = c := ⟨_, rfl⟩
  have HC : Hid _ := hc
  have HL : Hid ((textN x.text).length ≤ 140737488355400) := by
    have := hx.t1; have := encU_ten (n := x.text.size) (by omega); show _ ≤ _; unfold textN; rw [List.length_append, bytesOf_length]; omega
  obtain ⟨A, hA⟩ : ∃ A, strOf (encU x.text.size) = A := ⟨_, rfl⟩
  have hAs : A.size ≤ 10 := by have := hx.t1; rw [← hA, strOf_size]; exact encU_ten (by omega)
  have hsz : A.size + x.text.size ≤ 9223372036854775807 := by have := hx.t1; omega
  have HA : Hid _ := hA
  have HAB : Hid (A ++ x.text = strOf (textN x.text)) := by
    show _ = _
    rw [← hA]
    exact string_cat _ _
  have hwl : IntKind.u64.wrap ((x.text.size : Nat) : Int) = (x.text.size : Int) := by have := hx.t1; rw [IntKind.wrap_u64]; omega
  clear hPA h hx hc hA hAs
  go_enter Try.func12, Try.ntmps12
  go_wp2_with fail
  refine (HP.out _).mono ?_
  rintro e w' ⟨rfl, hw⟩; replace hw := hw.symm; subst hw
  clear HP
  go_wp2
  go_region_with (first
    | (go_at_call 33; refine (bText_any x.text _ HT.out (bb := bb) (ao := ab) (cap := cb) (bs := bs) (room := room) ?_).mono ?_; exact ⟨HPA.out.b.blk, HPA.out.b.row, HPA.out.b.le, HPA.out.b.rm⟩; rw [HC.out]; rintro e w2 ⟨rfl, hp0⟩; have hp := PutsTo.ahead (w := W.alloc (.cells #[.int .i64 x.kind, .int .u64 (x.n : Int), .int .i64 x.size, .string x.text] 31)) (by repeat (first | exact Kept.refl _ _ | refine Kept.trans ?_ (Kept.drew [] _) (by simp) | refine Kept.trans ?_ (Kept.drewN [] _ _) (by simp))) hp0; have hbk := HH.out.box hp; have hbx := cell_blk hbk 3; simp at hbx; clear hp0)
    | (go_at_call 36; refine (Number_any x.text.size _ (by have := HT.out; omega)).mono ?_; rw [HA.out]; rintro e w3 ⟨rfl, hk30⟩; have hk3 : Kept [] w2 w3 := Kept.trans (by repeat (first | exact Kept.refl _ _ | refine Kept.trans ?_ (Kept.drew [] _) (by simp) | refine Kept.trans ?_ (Kept.drewN [] _ _) (by simp))) hk30 (by simp); have hx3 := (HPA.out.x1 hp).kept hk3 (by simp); have hbx3 := cell_blk (hk3.heap hbk (by simp)) 3; simp at hbx3; clear hk30)
    | (go_at_call 35; rw [HAB.out]; refine (xPut_str _ (xb := xb) (bs := bs) (room := room) ?_ (textN x.text) HL.out).mono ?_; exact ⟨hx3.blk, hx3.le, hx3.rm⟩; rw [HC.out]; rintro e w4 ⟨rfl, hx4, hk40⟩; have hk4 : Kept [xb] w3 w4 := Kept.trans (Kept.mono (S := []) (T := [xb]) (by repeat (first | exact Kept.refl _ _ | refine Kept.trans ?_ (Kept.drew [] _) (by simp) | refine Kept.trans ?_ (Kept.drewN [] _ _) (by simp))) (by simp)) hk40 (fun y hy => .inl hy); clear hk40))
  all_goals go_wp2
  all_goals go_ret
  all_goals refine ⟨rfl, ?_⟩
  all_goals obtain ⟨⟨ab', cb', hP⟩, hBl⟩ := HPA.out.both hp hk3 hx4 hk4 hB
  all_goals exact ⟨ab', cb', _, ⟨⟨hP.b.blk, hP.b.row, hP.b.le, hP.b.rm⟩, ⟨hP.x.blk, hP.x.le, hP.x.rm⟩, hP.ne, hP.ao⟩, below_box HH.out hB hBl (by repeat (first | exact Kept.refl _ _ | refine Kept.trans ?_ (Kept.drew [] _) (by simp) | refine Kept.trans ?_ (Kept.drewN [] _ _) (by simp)))⟩

end Go.Proofs.Ytfbfdfenfcjolaa
