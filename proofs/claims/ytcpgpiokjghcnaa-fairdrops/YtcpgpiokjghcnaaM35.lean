/-
  FaOf.
-/
import Derived.Stop.Asserts
import Derived.Test.YtcpgpiokjghcnaaM31
import Derived.Test.YtcpgpiokjghcnaaM34
/-
  fair.Of over a graph; fair.Split.
-/
set_option linter.unusedVariables false
set_option linter.unusedSimpArgs false
namespace Go.Proofs.Ytcpgpiokjghcnaa
open Go.RowKit

theorem p_noStatic (v : Value) (w : World) : (Instr.typeAssert (.iface 48 v) 27 80 true).run Try.prog w = .ok (.tuple #[.nilIface, .bool false]) w := run_typeAssert_lacksB Try.underlying80 (by kernel_rfl) (by kernel_rfl) v 27 w

set_option maxHeartbeats 4000000 in
set_option maxRecDepth 40000 in
theorem fTellingAll_any (w : World) (cb : Nat) (rv x : Value) (h : w.heap[cb]? = some (.cells #[.iface 48 rv, x] 83 (0, 0))) :
    Calls Try.prog 16 #[.pointer (some ⟨cb, 0, none⟩)] w fun e w' => e = .returned (.iface 55 (.pointer (some ⟨cb, 0, none⟩))) ∧ Nu w w' := by
  have c0 := cell_blk h 0
  simp only [List.size_toArray, List.length_cons, List.length_nil, Nat.reduceAdd, Nat.lt_add_one, Nat.reduceLT, getElem?_pos, List.getElem_toArray, List.getElem_cons_zero, List.getElem_cons_succ, Nat.zero_lt_succ] at c0
  clear h
  have hta := p_noStatic rv
  go_enter Try.func16, Try.ntmps16
  go_wp2
  go_ret
  exact ⟨rfl, Mv.refl _ _⟩

set_option maxHeartbeats 4000000 in
set_option maxRecDepth 40000 in
theorem fairOf_any (w : World) (rv : Value) (p : Nat) (hp : p ≤ 16) :
    Calls Try.prog 7 #[.iface 48 rv, .int .i64 (p : Int)] w fun e w' => Nu w w' ∧ ∃ cb no nc, e = .returned (.tuple #[.iface 55 (.pointer (some ⟨cb, 0, none⟩)), .int .i64 0]) ∧ w.heap.size ≤ cb ∧ cb < w'.heap.size ∧ w.heap.size ≤ no ∧ no < w'.heap.size ∧ CopIs w' (fun b => b = cb ∨ b = no) cb (.iface 48 rv) (p + 1) no nc := by
  have hp1 : (p : Int) ≤ 16 := by omega
  have hp0 : (0 : Int) ≤ (p : Int) := by omega
  have hp2 : ¬ (p : Int) < 0 := by omega
  have hp3 : ¬ (16 : Int) < (p : Int) := by omega
  have HC := hid (copiesOf_any w 48 rv p hp)
  go_enter Try.func7, Try.ntmps7
  go_wp2_with (go_at_call 17; refine Calls.mono HC.out ?_; rintro e w2 ⟨cb, no, nc, rfl, hco⟩; have HCO := hid hco; clear hco)
  refine Calls.mono (fTellingAll_any w2 cb rv _ HCO.out.blk) ?_
  rintro e w3 ⟨rfl, hn3⟩
  have HC3 := hid (HCO.out.keep hn3)
  clear hn3 HCO HC
  go_wp2
  go_ret2
  obtain ⟨g, rfl, h1, h2, h3⟩ := HC3.out.cop ⟨by omega, by omega⟩
  exact ⟨HC3.out.nu, cb, g, nc, rfl, HC3.out.ge, lt_of_block HC3.out.blk, h1, h2, h3⟩

/-- What Split answers. -/
def splitF (st : ByteArray) : Value := match apart st with
  | none => .tuple #[.int .i64 0, .string ⟨#[]⟩, .bool false]
  | some (n, r) => .tuple #[.int .i64 (wrap64 (n : Int)), .string r, .bool true]

set_option maxHeartbeats 4000000 in
set_option maxRecDepth 20000 in
theorem fairSplit_any (w : World) (st : ByteArray) (hst : Short st) :
    Calls Try.prog 8 #[.string st] w fun e w' => e = .returned (splitF st) ∧ Nu w w' := by
  have HS := hid (numSplit_any w st hst)
  unfold apartV at HS
  clear hst
  cases ha : apart st with
  | none =>
    have HV : Hid (splitF st = .tuple #[.int .i64 0, .string ⟨#[]⟩, .bool false]) := by show _ = _; simp [splitF, ha]
    rw [ha] at HS
    simp only at HS
    go_enter Try.func8, Try.ntmps8
    go_wp2_with (go_at_call 18; refine Calls.mono HS.out ?_; rintro e w1 ⟨rfl, hnn⟩; have HN1 := hid hnn; clear hnn)
    go_ret3
    rw [HV.out]
    exact ⟨rfl, HN1.out⟩
  | some p =>
    obtain ⟨n, r⟩ := p
    have HV : Hid (splitF st = .tuple #[.int .i64 (wrap64 (n : Int)), .string r, .bool true]) := by show _ = _; simp [splitF, ha]
    rw [ha] at HS
    simp only at HS
    go_enter Try.func8, Try.ntmps8
    go_wp2_with (go_at_call 18; refine Calls.mono HS.out ?_; rintro e w1 ⟨rfl, hnn⟩; have HN1 := hid hnn; clear hnn)
    go_ret3
    rw [HV.out]
    exact ⟨rfl, HN1.out⟩

end Go.Proofs.Ytcpgpiokjghcnaa
