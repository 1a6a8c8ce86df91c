/-
  What the statement's own step does: something is put into both buffers, and they answer alike.
-/
import Derived.Test.YtfbfdfenfcjolaaXFixed
import Derived.Test.YtfbfdfenfcjolaaItems
namespace Go.Proofs.Ytfbfdfenfcjolaa
open Go.RowKit

/-- Both buffers, with the same bytes. -/
structure Pair (W : World) (bb xb : Nat) (ab : Option Addr) (cb : Nat) (bs : List UInt8) (room : Nat) : Prop where
  b : BufIs 70 W bb ab cb bs room
  x : XBuf W xb bs room
  ne : bb < xb
  ao : ∀ a, ab = some a → xb < a.block

theorem XBuf.lt {w : World} {xb : Nat} {bs : List UInt8} {room : Nat} (h : XBuf w xb bs room) : xb < w.heap.size := lt_of_block h.blk

theorem Pair.kept {W W' : World} {bb xb : Nat} {ab : Option Addr} {cb : Nat} {bs : List UInt8} {room : Nat} (h : Pair W bb xb ab cb bs room) (hk : Kept [] W W') : Pair W' bb xb ab cb bs room :=
  ⟨h.b.kept hk (by simp) (by simp), h.x.kept hk (by simp), h.ne, h.ao⟩

/-- The reference's buffer is as it was when the program's has been put into. -/
theorem Pair.x1 {W W1 : World} {bb xb : Nat} {ab : Option Addr} {cb : Nat} {bs ds : List UInt8} {room : Nat} (h : Pair W bb xb ab cb bs room) (hp : PutsTo W W1 bb ab bs ds room) : XBuf W1 xb bs room := by
  obtain ⟨_, _, _, hk, _⟩ := hp
  refine h.x.kept hk ?_
  simp only [List.mem_cons, not_or]
  refine ⟨by have := h.ne; omega, fun hx => ?_⟩
  obtain ⟨a, h1, h2⟩ := rowOf_mem hx
  have := h.ao a h1
  omega

/-- A block that is new is as it was, too. -/
theorem Pair.box {W W1 : World} {bb xb : Nat} {ab : Option Addr} {cb : Nat} {bs ds : List UInt8} {room : Nat} (h : Pair W bb xb ab cb bs room) {o : Obj} (hp : PutsTo (W.alloc o) W1 bb ab bs ds room) : W1.heap[W.heap.size]? = some o := by
  obtain ⟨_, _, _, hk, _⟩ := hp
  refine hk.heap (heap_alloc_new W o) ?_
  have hbl := h.b.lt
  simp only [List.mem_cons, not_or]
  refine ⟨by omega, fun hx => ?_⟩
  obtain ⟨a, h1, h2⟩ := rowOf_mem hx
  have := (h.b.row_lt a h1).2
  omega

/-- All of it: both have been put into. -/
theorem Pair.both {W W1 W2 W3 : World} {bb xb B : Nat} {ab : Option Addr} {cb : Nat} {bs ds : List UInt8} {room : Nat} (h : Pair W bb xb ab cb bs room) (hp : PutsTo W W1 bb ab bs ds room) (hk2 : Kept [] W1 W2)
    (hx : XBuf W3 xb (after room bs ds) room) (hk3 : Kept [xb] W2 W3) (hB : B ≤ bb) : (∃ ab' cb', Pair W3 bb xb ab' cb' (after room bs ds) room) ∧ Below B W W3 := by
  have hb1 := (hp.below h.b hB).1
  have hxl := h.x.lt
  have hne := h.ne
  obtain ⟨ab', cb', hb, hk1, hm⟩ := hp
  have hao : ∀ a, ab' = some a → xb < a.block := fun a ha => by
    rcases hm with e | e
    · exact h.ao a (by rw [← e]; exact ha)
    · have := e a ha; omega
  refine ⟨⟨ab', cb', (hb.kept hk2 (by simp) (by simp)).kept hk3 (by simp; omega) (fun a ha => by have := hao a ha; simp; omega), hx, hne, hao⟩, ?_⟩
  have hs1 := hk1.size
  have hs2 := hk2.size
  exact (hb1.trans (hk2.from (by omega) (by simp))).trans (hk3.from (by omega) (by simp; omega))

theorem xPut_str (w : World) {xb : Nat} {bs : List UInt8} {room : Nat} (h : XBuf w xb bs room) (ds : List UInt8) (hs : ds.length ≤ 140737488355400) :
    Calls Try.prog 35 #[.pointer (some ⟨xb, 0, none⟩), .string (strOf ds)] w fun e w' => e = .returned (.int .i64 (putCode room bs ds)) ∧ XBuf w' xb (after room bs ds) room ∧ Kept [xb] w w' :=
  xPut_any w h ds hs

theorem below_box {W W1 W2 : World} {bb xb B : Nat} {ab : Option Addr} {cb : Nat} {bs : List UInt8} {room : Nat} {o : Obj} (h : Pair W bb xb ab cb bs room) (hB : B ≤ bb) (hb : Below B (W.alloc o) W1) (hk : Kept [] W1 W2) : Below B W W2 := by
  have hlt := h.b.lt
  have hs := hb.size
  refine (((Below.refl B W).alloc (by omega) o).trans hb).trans (hk.from ?_ (by simp))
  simp at hs
  omega

/-- What a step leaves. -/
def DidOk (B : Nat) (W : World) (bb xb : Nat) (room : Nat) (e : Ending) (W' : World) : Prop :=
  e = .returned (.bool true) ∧ ∃ ab' cb' bs', Pair W' bb xb ab' cb' bs' room ∧ Below B W W'

/-- The item as a value. -/
def Item.val (x : Item) : Value := .agg #[.int .i64 x.kind, .int .u64 (x.n : Int), .int .i64 x.size, .string x.text]

theorem ret_eq (c : Int) : Ending.returned (.bool (c == c)) = .returned (.bool true) := by simp

set_option maxHeartbeats 1600000 in
set_option maxRecDepth 20000 in
theorem does_kind0 (W : World) {bb xb B : Nat} {ab : Option Addr} {cb : Nat} {bs : List UInt8} {room : Nat} (h : Pair W bb xb ab cb bs room) (hB : B ≤ bb) (x : Item) (hx : x.Ok) (hk : pickN x.kind 5 = 0) :
    Calls Try.prog 12 #[.pointer (some ⟨bb, 0, none⟩), .pointer (some ⟨xb, 0, none⟩), .agg #[.int .i64 x.kind, .int .u64 (x.n : Int), .int .i64 x.size, .string x.text]] W (DidOk B W bb xb room) := by
  have hp := fun W => pick_any x.kind 5 W hx.k0 hx.k1 (by omega) (by omega)
  rw [hk] at hp
  have HP : Hid _ := hp
  clear hp hk
  have hPA := h.kept (Kept.alloc [] W (.cells #[.int .i64 x.kind, .int .u64 (x.n : Int), .int .i64 x.size, .string x.text] 31))
  have HPA : Hid _ := hPA
  have HH : Hid _ := h
  have HN : Hid _ := hx.n1
  obtain ⟨c, hc⟩ : ∃ c, putCode room bs (encU x.n) = c := ⟨_, rfl⟩
  have HC : Hid _ := hc
  have HL : Hid ((encU x.n).length ≤ 140737488355400) := by have := hx.n1; have := encU_ten (n := x.n) (by omega); show _ ≤ _; omega
  clear hPA h hx hc
  go_enter Try.func12, Try.ntmps12
  go_wp2_with fail
  refine (HP.out _).mono ?_
  rintro e w' ⟨rfl, hw⟩; replace hw := hw.symm; subst hw
  clear HP
  go_wp2
  go_region_with (first
    | (go_at_call 30; refine (bUint_any x.n _ HN.out (bb := bb) (ao := ab) (cap := cb) (bs := bs) (room := room) ?_).mono ?_; exact ⟨HPA.out.b.blk, HPA.out.b.row, HPA.out.b.le, HPA.out.b.rm⟩; rw [HC.out]; rintro e w2 ⟨rfl, hp0⟩; have hp := PutsTo.ahead (w := W.alloc (.cells #[.int .i64 x.kind, .int .u64 (x.n : Int), .int .i64 x.size, .string x.text] 31)) (by repeat (first | exact Kept.refl _ _ | refine Kept.trans ?_ (Kept.drew [] _) (by simp) | refine Kept.trans ?_ (Kept.drewN [] _ _) (by simp))) hp0; have hbx := cell_blk (HH.out.box hp) 1; simp at hbx; clear hp0)
    | (go_at_call 36; refine (Number_any x.n _ HN.out).mono ?_; rintro e w3 ⟨rfl, hk30⟩; have hk3 : Kept [] w2 w3 := Kept.trans (by repeat (first | exact Kept.refl _ _ | refine Kept.trans ?_ (Kept.drew [] _) (by simp) | refine Kept.trans ?_ (Kept.drewN [] _ _) (by simp))) hk30 (by simp); have hx3 := (HPA.out.x1 hp).kept hk3 (by simp); clear hk30)
    | (go_at_call 35; refine (xPut_str _ (xb := xb) (bs := bs) (room := room) ?_ (encU x.n) HL.out).mono ?_; exact ⟨hx3.blk, hx3.le, hx3.rm⟩; rw [HC.out]; rintro e w4 ⟨rfl, hx4, hk40⟩; have hk4 : Kept [xb] w3 w4 := Kept.trans (Kept.mono (S := []) (T := [xb]) (by repeat (first | exact Kept.refl _ _ | refine Kept.trans ?_ (Kept.drew [] _) (by simp) | refine Kept.trans ?_ (Kept.drewN [] _ _) (by simp))) (by simp)) hk40 (fun y hy => .inl hy); clear hk40))
  all_goals go_wp2
  all_goals go_ret
  all_goals refine ⟨rfl, ?_⟩
  all_goals obtain ⟨⟨ab', cb', hP⟩, hBl⟩ := HPA.out.both hp hk3 hx4 hk4 hB
  all_goals exact ⟨ab', cb', _, ⟨⟨hP.b.blk, hP.b.row, hP.b.le, hP.b.rm⟩, ⟨hP.x.blk, hP.x.le, hP.x.rm⟩, hP.ne, hP.ao⟩, below_box HH.out hB hBl (by repeat (first | exact Kept.refl _ _ | refine Kept.trans ?_ (Kept.drew [] _) (by simp) | refine Kept.trans ?_ (Kept.drewN [] _ _) (by simp)))⟩

end Go.Proofs.Ytfbfdfenfcjolaa
