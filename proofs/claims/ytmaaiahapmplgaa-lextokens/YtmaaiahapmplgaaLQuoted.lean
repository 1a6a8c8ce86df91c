/-
  What unescape and readQuoted do.
-/
import Derived.Test.YtmaaiahapmplgaaLName
import Derived.Deep.AppendLies
import Derived.OwnWalk
namespace Go.Proofs.Ytmaaiahapmplgaa
open Go.RowKit

theorem infoU8 : (Try.prog.info? 5).map (fun i => (i.zero, i.size, i.bytes)) = some (some (.int .u8 0), 1, 1) := by kernel_rfl

theorem ret_ub {a b : Int} {x y : Bool} (h : a = b) (h2 : x = y) : Ending.returned (.tuple #[.int .u8 a, .bool x]) = .returned (.tuple #[.int .u8 b, .bool y]) := by rw [h, h2]

set_option maxHeartbeats 2000000 in
theorem unescape_end (s : ByteArray) (w : World) :
    Calls Try.prog 45 #[.string s, .int .i64 (s.size : Int)] w fun e w' => e = .returned (.tuple #[.int .u8 0, .bool false]) ∧ w' = w := by
  go_enter Try.func45, Try.ntmps45
  go_wp2
  go_ret2
  exact ⟨rfl, rfl⟩

theorem unesc_int (c : UInt8) : unesc c = if (c.toNat : Int) = 110 then some 10 else if (c.toNat : Int) = 116 then some 9 else if (c.toNat : Int) = 92 ∨ (c.toNat : Int) = 34 then some c else none := by
  have e : ∀ d : UInt8, (c == d) = true ↔ (c.toNat : Int) = (d.toNat : Int) := fun d => by rw [u8_beq]; simp
  unfold unesc
  simp only [Bool.or_eq_true, e]
  rfl

set_option maxHeartbeats 2000000 in
theorem unescape_any (s : ByteArray) (k : Nat) (hk : k < s.size) (w : World) :
    Calls Try.prog 45 #[.string s, .int .i64 (k : Int)] w fun e w' => e = .returned (.tuple #[.int .u8 (((unesc s[k]).getD 0).toNat : Int), .bool (unesc s[k]).isSome]) ∧ w' = w := by
  have h1 : ((k : Int) == (s.size : Int)) = false := by simp; omega
  have h2 : (k : Int) < (s.size : Int) := by omega
  have HU : Hid _ := unesc_int s[k]
  by_cases a : (s[k].toNat : Int) = 110
  · go_enter Try.func45, Try.ntmps45
    go_wp2
    go_ret2
    exact ⟨by rw [HU.out, if_pos a]; rfl, rfl⟩
  · by_cases b : (s[k].toNat : Int) = 116
    · go_enter Try.func45, Try.ntmps45
      go_wp2
      go_ret2
      exact ⟨by rw [HU.out, if_neg a, if_pos b]; rfl, rfl⟩
    · by_cases c : (s[k].toNat : Int) = 92
      · go_enter Try.func45, Try.ntmps45
        go_wp2
        go_ret2
        exact ⟨by rw [HU.out, if_neg a, if_neg b, if_pos (.inl c)]; exact ret_ub c.symm rfl, rfl⟩
      · by_cases d : (s[k].toNat : Int) = 34
        · go_enter Try.func45, Try.ntmps45
          go_wp2
          go_ret2
          exact ⟨by rw [HU.out, if_neg a, if_neg b, if_pos (.inr d)]; exact ret_ub d.symm rfl, rfl⟩
        · go_enter Try.func45, Try.ntmps45
          go_wp2
          go_ret2
          exact ⟨by rw [HU.out, if_neg a, if_neg b, if_neg (by simp [c, d])]; rfl, rfl⟩

/-- What is read behind what has been read. -/
def qsh (acc : List UInt8) (d : Nat) : Except Mis (List UInt8 × Nat) → Except Mis (List UInt8 × Nat)
  | .error (e, k) => .error (e, k + d)
  | .ok (bs, n) => .ok (acc ++ bs, n + d)

theorem qsh_zero (x : Except Mis (List UInt8 × Nat)) : qsh [] 0 x = x := by
  cases x with
  | error e => rfl
  | ok y => rfl

theorem quo_nil : quo [] = .error (21, 0) := rfl
theorem quo_end (r : List UInt8) : quo (34 :: r) = .ok ([], 1) := by rw [quo.eq_def]; simp
theorem quo_bad {c : UInt8} {r : List UInt8} (h : (c == 34) = false) (hb : (decide (c < 32) || decide (126 < c)) = true) : quo (c :: r) = .error (22, 0) := by
  rw [quo.eq_def]; simp only [h, hb]; simp
theorem quo_plain {c : UInt8} {r : List UInt8} (acc : List UInt8) (d : Nat) (h : (c == 34) = false) (hb : (decide (c < 32) || decide (126 < c)) = false) (h92 : (c == 92) = false) : qsh acc d (quo (c :: r)) = qsh (acc ++ [c]) (d + 1) (quo r) := by
  rw [quo.eq_def]
  simp only [h, hb, h92]
  simp only [Bool.false_eq_true, if_false]
  cases quo r with
  | error e => obtain ⟨e, k⟩ := e; simp [qsh]; omega
  | ok y => obtain ⟨bs, n⟩ := y; simp [qsh]; omega
theorem quo_esc_nil : quo [92] = .error (22, 0) := by rw [quo.eq_def]; simp
theorem quo_esc_bad {c : UInt8} {r : List UInt8} (h : unesc c = none) : quo (92 :: c :: r) = .error (22, 0) := by rw [quo.eq_def]; simp [h]
theorem quo_esc {c b : UInt8} {r : List UInt8} (acc : List UInt8) (d : Nat) (h : unesc c = some b) : qsh acc d (quo (92 :: c :: r)) = qsh (acc ++ [b]) (d + 2) (quo r) := by
  rw [quo.eq_def]
  simp [h]
  cases quo r with
  | error e => obtain ⟨e, k⟩ := e; simp [qsh]; omega
  | ok y => obtain ⟨bs, n⟩ := y; simp [qsh]; omega

/-- What readQuoted hands back. -/
def quoW (q : Except Mis (List UInt8 × Nat)) : Except Mis (Nat × List UInt8 × Nat × Nat) := match q with
  | .error (e, k) => .error (e, k + 1)
  | .ok (bs, n) => .ok (3, bs, 0, n + 1)

theorem wordOf_quoted {r : List UInt8} : wordOf 34 r = quoW (quo r) := by
  unfold wordOf
  rw [if_neg (by decide), if_neg (by decide), if_pos (by decide)]
  rfl

end Go.Proofs.Ytmaaiahapmplgaa
