/-
  What ranging over codec.Lines does: the lines of the text, one behind the other, as far as one likes.
-/
import Derived.Test.YtfbfdfenfcjolaaLCut
import Derived.RangeFuncNested
import Derived.RangeFuncBound
import Derived.RangeFuncCalls
import Derived.RangeFuncLeaves
import Derived.Shelf.Abstract
import Derived.Shelf.RegionOpen
import Derived.OwnWalkIn
import Derived.TacticsInMore
import Derived.LoopNIn
import Derived.LoopIn
namespace Go.Proofs.Ytfbfdfenfcjolaa
open Go.RowKit Go.Shelf
attribute [local go_sem] Oper.semAt_some

/-- A line: a text without a line's end. -/
abbrev Ln := { x : ByteArray // x.size ≤ 140737488355327 ∧ hasLF x = false }

theorem strL_lf (l : List UInt8) : hasLF (strL (headLn l)) = false := by unfold hasLF; rw [bytesOf_strL]; exact headLn_lf l

/-- The first line. -/
def Ln.first (s : ByteArray) (h : s.size ≤ 140737488355327) : Ln :=
  ⟨strL (headLn (bytesOf s)), by rw [strL_size]; have := headLn_length (bytesOf s); rw [bytesOf_length] at this; omega, strL_lf _⟩

/-- Lines as bytes. -/
def lnB (xs : List Ln) : List (List UInt8) := xs.map fun x => bytesOf x.1

theorem Kept.grownBy {w w' : World} (h : Kept [] w w') : w.grownBy w' none :=
  ⟨h.os, h.tape, h.output, h.size, fun k hk _ => h.block k hk (by simp)⟩

def strSz : Value → Nat
  | .string s => s.size
  | _ => 0

theorem empty_bytes {s : ByteArray} (h : s.size = 0) : bytesOf s = [] := List.eq_nil_of_length_eq_zero (by rw [bytesOf_length]; exact h)

set_option maxHeartbeats 2000000 in
set_option maxRecDepth 100000 in
theorem lines_stops (n : Nat) (hn : 1 ≤ n) (s : ByteArray) (hs : s.size ≤ 140737488355327) (Bn : Nat) (w0 : World) (hBn : Bn < w0.heap.size) (hc : w0.cell? ⟨Bn, 0, none⟩ = some (.string s)) (Kp : World → World → Prop) :
    SeqStopsK Fence.wide n Try.prog 46 #[.pointer (some ⟨Bn, 0, none⟩)] (fun x : Ln => #[.string x.1]) Kp (fun xs => lnB xs = lns (bytesOf s)) (fun pre => lnB pre <+: lns (bytesOf s)) (lns (bytesOf s)).length w0 := fun l J Jx W hW hJ hJx hY h0 => by
  have hc' : W.cell? ⟨Bn, 0, none⟩ = some (.string s) := (hW.cell (p := ⟨Bn, 0, none⟩) hBn).trans hc
  refine callsIn_of_wp Try.func46 rfl trivial ?_ rfl
  simp only [Try.ntmps46, List.size_toArray, List.length_cons, List.length_nil, Nat.reduceAdd, Nat.reduceSub, Array.replicate_succ, Array.replicate_zero, List.push_toArray, List.append_toArray, List.nil_append, List.cons_append]
  gi_wp2
  gi_loopw [3] (fun rv wr => ∃ (pre : List Ln) (rest : ByteArray), rv = .string rest ∧ rest.size ≤ 140737488355327 ∧ lns (bytesOf s) = lnB pre ++ lns (bytesOf rest) ∧ J pre wr)
    (fun rv _ => strSz rv)
  case atStart => exact ⟨[], s, rfl, hs, rfl, h0⟩
  case round =>
    obtain ⟨pre, rest, rfl, hr, hx, hJs⟩ := hrel
    by_cases he : rest.size = 0
    · have hb := empty_bytes he
      have hq : rest = ⟨#[]⟩ := by rw [← strL_bytesOf rest, hb]; rfl
      subst hq
      gi_wp2
      go_end0
      exact ⟨⟨_, rfl⟩, .inl ⟨pre, by rw [hx, hb]; simp [lns], hJs⟩⟩
    · have hb : bytesOf rest ≠ [] := fun e => he (by rw [← bytesOf_length, e]; rfl)
      have hq : rest.toList.isEmpty = false := by rw [Lib.toList_data]; exact List.isEmpty_eq_false_iff.2 hb
      have hstep := lns_step (bytesOf rest) hb
      obtain ⟨x, hxe⟩ : ∃ x : Ln, x = Ln.first rest hr := ⟨_, rfl⟩
      have hx1 : strL (headLn (bytesOf rest)) = x.1 := by rw [hxe]; rfl
      have hx3 : bytesOf x.1 = headLn (bytesOf rest) := by rw [← hx1, bytesOf_strL]
      have hx2 := x.2.1
      clear hxe
      gi_wp2_with (first
        | (refine ⟨trivial, ?_⟩; gi_at_call 47; refine (callsIn_wide.2 (Cut_any rest _ (by omega))).mono ?_; rintro e w1 ⟨rfl, n1, rfl⟩; rw [hx1])
        | (refine ⟨trivial, ?_⟩; gi_at_call 45; refine (callsIn_wide.2 (Clone_any x.1 _ (by omega))).mono ?_; rintro e w2 ⟨rfl, hk2⟩))
      have hkk : Kept [] wr w2 := (Kept.drewN [] wr n1).trans hk2 (by simp)
      have hlen : pre.length < (lns (bytesOf s)).length := by
        rw [hx, hstep]; simp [lnB]
      have hl2 : lns (bytesOf s) = lnB (pre ++ [x]) ++ lns (tailLn (bytesOf rest)) := by
        rw [hx, hstep]; simp [lnB, hx3]
      obtain ⟨fn, tmps, assign, body, hy, hR⟩ := hY pre x w2 (hJ pre wr w2 none hJs hkk.grownBy (by simp)) hlen
      rw [hy, Oper.uponIn_round]
      refine ⟨fun _ => hn, hR.mono ?_⟩
      rintro e W3 (⟨rfl, hJ3, _⟩ | ⟨rfl, hJx3⟩)
      · gi_wp2
        go_roundw
        case rel => exact ⟨pre ++ [x], _, rfl, by rw [strL_size]; have := tailLn_length _ hb; rw [bytesOf_length] at this; omega, by rw [bytesOf_strL]; exact hl2, hJ3⟩
        case measure => simp [strSz, strL_size]; have := tailLn_length _ hb; rw [bytesOf_length] at this; exact this
      · gi_wp2
        refine bodyPost_ret (results_none rfl _ _ _) rfl ?_
        exact ⟨⟨_, rfl⟩, .inr ⟨pre ++ [x], ⟨_, hl2.symm⟩, hJx3⟩⟩
end Go.Proofs.Ytfbfdfenfcjolaa
