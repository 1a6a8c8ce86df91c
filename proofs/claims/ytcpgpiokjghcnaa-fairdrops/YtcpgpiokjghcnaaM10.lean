/-
  Put.
-/
import Derived.Deep.AppendLies
import Derived.Test.YtcpgpiokjghcnaaM9
/-
  What put does: bytes behind what is there, whole or not at all.
-/
namespace Go.Proofs.Ytcpgpiokjghcnaa
open Go.RowKit

set_option maxHeartbeats 400000 in
theorem put_nil (w : World) (a : Option Addr) (m c : Nat) :
    Calls Try.prog 36 #[.pointer none, .slice a m c] w fun e w' => e = .returned (.int .i64 1) ∧ w' = w := by
  go_enter Try.func36, Try.ntmps36
  go_wp2_with (go_at_call 38; refine (fits_nil _ _).mono ?_; rintro e w' ⟨rfl, rfl⟩)
  go_ret
  exact ⟨rfl, rfl⟩

/-- What the append and the store leave of a buffer. -/
theorem buf_put {w w1 : World} {bb : Nat} {ao : Option Addr} {cap : Nat} {bs : List UInt8} {room : Nat} (h : BufIs 105 w bb ao cap bs room) (k : Nat) (ds : List UInt8) (hfit : ds.length ≤ room - bs.length) {g cap' : Nat}
    (hown : w1.ownsRow (bb + 1) 5 1 (.slice (some ⟨g, 0, none⟩) (bs.length + ds.length) cap') (bs.length + ds.length) (cellsOf bs ++ cellsOf ds)) (hg : (w.drewN k).grownBy w1 (Value.ownBlock (.slice ao bs.length cap)))
    (hat : Value.ownBlock (.slice ao bs.length cap) = some g ∨ g = w.heap.size) :
    BufIs 105 (w1.setCell ⟨bb, 0, none⟩ (.slice (some ⟨g, 0, none⟩) (bs.length + ds.length) cap')) bb (some ⟨g, 0, none⟩) cap' (bs ++ ds) room ∧
      Kept (bb :: rowOf ao) w (w1.setCell ⟨bb, 0, none⟩ (.slice (some ⟨g, 0, none⟩) (bs.length + ds.length) cap')) ∧ Moved w ao (some ⟨g, 0, none⟩) := by
  have hbl := lt_of_block h.blk
  have hrow : ∀ a, ao = some a → bb < a.block := fun a ha => by
    have := (h.row.lt a.block (by rw [ha]; rfl)).1; omega
  have hbg : bb + 1 ≤ g := (hown.lt g rfl).1
  have hblk1 : w1.heap[bb]? = some (.cells #[.slice ao bs.length cap, .int .i64 room] 105 (0, 0)) := by
    rw [hg.block bb hbl (fun e => by
      cases ao with
      | none => simp [Value.ownBlock] at e
      | some a => have := hrow a rfl; simp [Value.ownBlock] at e; omega)]
    exact h.blk
  have hlen : bs.length + ds.length = (bs ++ ds).length := by simp
  refine ⟨⟨?_, ?_, ?_, h.rm⟩, ?_, ?_⟩
  · rw [setCell_blk hblk1, ← hlen]; rfl
  · rw [← hlen, cellsOf_append]
    exact ownsRow_setCell_below hown (by simp) _
  · have := h.le; rw [← hlen]; omega
  · refine ((Kept.drewN _ w k).trans (Kept.grown hg) ?_).trans (Kept.setCell _ _ _) ?_
    · intro x hx
      left
      cases ao with
      | none => simp [Value.ownBlock] at hx
      | some a => simp [Value.ownBlock] at hx; simp [rowOf, hx]
    · intro x hx; left; simp at hx; simp [hx]
  · rcases hat with e | e
    · left
      cases ao with
      | none => simp [Value.ownBlock] at e
      | some a =>
        rcases h.row.2 with ⟨hv, _⟩ | ⟨g', _, _, hv, _⟩
        · simp at hv
        · simp at hv; obtain ⟨rfl, _⟩ := hv; simp [Value.ownBlock] at e; rw [e]
    · right
      intro a ha
      simp at ha
      rw [← ha]
      exact Nat.le_of_eq e.symm

set_option maxHeartbeats 400000 in
theorem put_yes (w : World) {bb : Nat} {ao : Option Addr} {cap : Nat} {bs : List UInt8} {room : Nat} (h : BufIs 105 w bb ao cap bs room) (a : Addr) (c : Nat) (ds : List UInt8)
    (hsrc : ∀ j u, (cellsOf ds)[j]? = some u → w.cell? (a.add j) = some u) (h0 : 0 < ds.length) (hfit : ds.length ≤ room - bs.length) :
    Calls Try.prog 36 #[.pointer (some ⟨bb, 0, none⟩), .slice (some a) ds.length c] w fun e w' => e = .returned (.int .i64 0) ∧
      ∃ ao' cap', BufIs 105 w' bb ao' cap' (bs ++ ds) room ∧ Kept (bb :: rowOf ao) w w' ∧ Moved w ao ao' := by
  obtain ⟨i0, hi, hz0, hz1, hz2⟩ := info_parts Try.infoU8
  have hl := h.le
  have hr := h.rm
  have hbl := lt_of_block h.blk
  have hcode : fitsCode room bs.length (ds.length : Int) = 0 := by unfold fitsCode; rw [if_pos (by omega)]
  have c0 := cell_blk h.blk 0
  simp at c0
  have HS : Hid (∀ j u, (cellsOf ds)[j]? = some u → w.cell? (a.add j) = some u) := hsrc
  clear hsrc
  go_enter Try.func36, Try.ntmps36
  go_wp2_with (first | (go_at_call 38; refine (fits_any _ _ h).mono ?_; rw [hcode]; rintro e w' ⟨rfl, k, rfl⟩) | (at_builtin; refine wpList_append_lies _ rfl _ _ 103 rfl (bb + 1) 5 i0 (.int .u8 0) 1 1 Try.underlying103 hi hz0 hz1 hz2 rfl (by decide) _ _ _ rfl h.row a ds.length c (cellsOf ds) rfl (by simp [cellsOf_length]) (fun j u hj => HS.out j u hj) (cellsOf_oneCell ds) h0 (by unfold maxLen; omega) (by omega) (by simp; omega) w.heap.size rfl ?_))
  intro g cap' w1 hown hg hat _
  obtain ⟨hB, hK, hM⟩ := buf_put h k ds hfit hown hg hat
  have hblk1 : w1.heap[bb]? = some (.cells #[.slice ao bs.length cap, .int .i64 room] 105 (0, 0)) := by
    rw [hg.block bb hbl (fun e => by have := (h.row.lt bb e.symm).1; omega)]; exact h.blk
  have d0 := cell_blk hblk1 0
  have f0 := free_blk hblk1 0
  simp at d0
  clear hblk1 hown hg hat h HS
  go_wp2
  go_ret
  exact ⟨rfl, _, _, hB, hK, hM⟩

set_option maxHeartbeats 400000 in
theorem put_no (w : World) {bb : Nat} {ao : Option Addr} {cap : Nat} {bs : List UInt8} {room : Nat} (h : BufIs 105 w bb ao cap bs room) (a : Option Addr) (n c : Nat) (hfit : ¬ n ≤ room - bs.length) :
    Calls Try.prog 36 #[.pointer (some ⟨bb, 0, none⟩), .slice a n c] w fun e w' => e = .returned (.int .i64 12) ∧ ∃ k, w' = w.drewN k := by
  have hl := h.le
  have hcode : fitsCode room bs.length (n : Int) = 12 := by unfold fitsCode; rw [if_neg (by omega)]
  go_enter Try.func36, Try.ntmps36
  go_wp2_with (go_at_call 38; refine (fits_any _ _ h).mono ?_; rw [hcode]; rintro e w' ⟨rfl, k, rfl⟩)
  go_ret
  exact ⟨rfl, _, rfl⟩

/-- What is answered to bytes that are put. -/
def putCode (room : Nat) (bs ds : List UInt8) : Int := if ds.length ≤ room - bs.length then 0 else 12

theorem BufIs.drewN {w : World} {bb : Nat} {ao : Option Addr} {cap : Nat} {bs : List UInt8} {room : Nat} (h : BufIs 105 w bb ao cap bs room) (k : Nat) : BufIs 105 (w.drewN k) bb ao cap bs room :=
  ⟨h.blk, h.row, h.le, h.rm⟩

/-- PUT: whole, or not at all. -/
theorem put_any (w : World) {bb : Nat} {ao : Option Addr} {cap : Nat} {bs : List UInt8} {room : Nat} (h : BufIs 105 w bb ao cap bs room) (a : Addr) (c : Nat) (ds : List UInt8)
    (hsrc : ∀ j u, (cellsOf ds)[j]? = some u → w.cell? (a.add j) = some u) (h0 : 0 < ds.length) :
    Calls Try.prog 36 #[.pointer (some ⟨bb, 0, none⟩), .slice (some a) ds.length c] w fun e w' => e = .returned (.int .i64 (putCode room bs ds)) ∧
      ∃ ao' cap', BufIs 105 w' bb ao' cap' (after room bs ds) room ∧ Kept (bb :: rowOf ao) w w' ∧ Moved w ao ao' := by
  by_cases hfit : ds.length ≤ room - bs.length
  · rw [show putCode room bs ds = 0 from if_pos hfit, show after room bs ds = bs ++ ds from if_pos hfit]
    exact put_yes w h a c ds hsrc h0 hfit
  · rw [show putCode room bs ds = 12 from if_neg hfit, show after room bs ds = bs from if_neg hfit]
    exact (put_no w h (some a) ds.length c hfit).mono fun e w' ⟨he, k, hw⟩ => ⟨he, ao, cap, by rw [hw]; exact h.drewN k, by rw [hw]; exact Kept.drewN _ _ _, .inl rfl⟩

end Go.Proofs.Ytcpgpiokjghcnaa
