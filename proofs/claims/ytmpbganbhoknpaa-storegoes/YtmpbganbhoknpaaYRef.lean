/-
  What the reference's store does.
-/
import Derived.Test.YtmpbganbhoknpaaYMany
namespace Go.Proofs.Ytmpbganbhoknpaa
open Go.RowKit

theorem bytesIn_small {B : Nat} : ∀ {L : List ByteArray}, (∀ s ∈ L, s.size ≤ B) → bytesIn L ≤ L.length * B
  | [], _ => by simp [bytesIn]
  | s :: r, h => by
    have h1 := h s (by simp)
    have h2 := bytesIn_small (L := r) (B := B) (fun x hx => h x (List.mem_cons_of_mem _ hx))
    rw [bytesIn, List.length_cons, Nat.succ_mul]
    omega

/-- The reference's store in memory. -/
structure RS (w : World) (rb : Nat) (vo : Option Addr) (vc : Nat) (L : List ByteArray) (S R : Nat) : Prop where
  blk : w.heap[rb]? = some (.cells #[.slice vo L.length vc, .int .i64 (S : Int), .int .i64 (R : Int)] 41 (0, 0))
  row : w.ownsRow (rb + 1) 9 1 (.slice vo L.length vc) L.length (L.map Value.string)
  fine : Fine S R L
  len : L.length ≤ 4000
  s1 : (S : Int) ≤ 9223372036854775807
  r1 : (R : Int) ≤ 9223372036854775807
  sz : ∀ s ∈ L, s.size ≤ 1048576

theorem RS.kept {w w' : World} {rb : Nat} {vo : Option Addr} {vc : Nat} {L : List ByteArray} {S R : Nat} (h : RS w rb vo vc L S R) {T : List Nat} (hk : Kept T w w') (h1 : rb ∉ T) (h2 : ∀ k, (Value.slice vo L.length vc).ownBlock = some k → k ∉ T) : RS w' rb vo vc L S R :=
  ⟨hk.heap h.blk h1, hk.row h.row h2, h.fine, h.len, h.s1, h.r1, h.sz⟩

theorem RS.cell {w : World} {rb : Nat} {vo : Option Addr} {vc : Nat} {L : List ByteArray} {S R : Nat} (h : RS w rb vo vc L S R) {i : Nat} {s : ByteArray} (hi : L[i]? = some s) : ∃ gv, vo = some ⟨gv, 0, none⟩ ∧ w.cell? ⟨gv, i, none⟩ = some (.string s) := by
  rcases h.row.2 with ⟨_, hn0⟩ | ⟨gv, cv, cur, hv, _⟩
  · have := (List.getElem?_eq_some_iff.1 hi).1; omega
  · injection hv with h1
    subst h1
    refine ⟨gv, rfl, ?_⟩
    have := h.row.cells (g := gv) rfl i (.string s) (by rw [List.getElem?_map, hi]; rfl)
    rwa [add_block] at this

/-- None of the first i is s. -/
def notTo (L : List ByteArray) (s : ByteArray) (i : Nat) : Prop := ∀ k x, k < i → L[k]? = some x → ¬ x = s
theorem fnd_first {L : List ByteArray} {s : ByteArray} : ∀ {i : Nat}, L[i]? = some s → notTo L s i → fnd L s = (i, true) := by
  induction L with
  | nil => intro i h; simp at h
  | cons x r ih =>
    intro i h hn
    cases i with
    | zero =>
      simp only [List.getElem?_cons_zero, Option.some.injEq] at h
      unfold fnd; rw [if_pos h]
    | succ i =>
      have hx : ¬ x = s := hn 0 x (by omega) rfl
      have h' : r[i]? = some s := by simpa using h
      have := ih h' (fun k y hk hy => hn (k + 1) y (by omega) (by simpa using hy))
      unfold fnd
      rw [if_neg hx, this]
      rfl
theorem fnd_none {L : List ByteArray} {s : ByteArray} (h : notTo L s L.length) : fnd L s = (0, false) :=
  fnd_no fun hm => by
    obtain ⟨k, hk, e⟩ := List.mem_iff_getElem.1 hm
    exact h k _ hk (List.getElem?_eq_getElem hk) e

theorem str_beq_iff {a b : ByteArray} : (a.toList == b.toList) = decide (a = b) := by
  by_cases h : a = b
  · rw [decide_eq_true h, h]; simp
  · rw [decide_eq_false h]
    refine beq_eq_false_iff_ne.2 fun e => h ?_
    rw [ByteArray.toList_eq, ByteArray.toList_eq] at e
    cases a; cases b
    congr 1
    exact Array.toList_inj.1 e

set_option maxHeartbeats 4000000 in
set_option maxRecDepth 20000 in
theorem rFind_any (w : World) {rb : Nat} {vo : Option Addr} {vc : Nat} {L : List ByteArray} {S R : Nat} (h : RS w rb vo vc L S R) (s : ByteArray) :
    Calls Try.prog 14 #[.pointer (some ⟨rb, 0, none⟩), .string s] w fun e w' => e = .returned (.tuple #[.int .i64 ((fnd L s).1 : Int), .bool (fnd L s).2]) ∧ w' = w := by
  have HR : Hid (RS w rb vo vc L S R) := h
  have c0 := cell_blk h.blk 0
  simp at c0
  have hl := h.len
  obtain ⟨A, hA⟩ : ∃ A, fnd L s = A := ⟨_, rfl⟩
  rw [hA]
  have HA : Hid (fnd L s = A) := hA
  clear h hA
  go_enter Try.func14, Try.ntmps14
  go_wp2
  go_loopw [6] (fun iv wr => ∃ i : Nat, i ≤ L.length ∧ iv = .int .i64 (i : Int) ∧ Hid (notTo L s i) ∧ wr = w)
    (fun iv _ => L.length - (intOf iv).toNat)
  case atStart => exact ⟨0, Nat.zero_le _, rfl, fun k x hk => absurd hk (Nat.not_lt_zero _), rfl⟩
  case round =>
    obtain ⟨i, hi, rfl, HN, hwr⟩ := hrel
    replace hwr := hwr.symm
    subst hwr
    rcases Nat.lt_or_ge i L.length with hlt | hge
    · have hlt' : (i : Int) < (L.length : Int) := by omega
      obtain ⟨x, hx⟩ : ∃ x, L[i]? = some x := ⟨_, List.getElem?_eq_getElem hlt⟩
      obtain ⟨gv, rfl, c1⟩ := HR.out.cell hx
      have HX : Hid (L[i]? = some x) := hx
      have HT : Hid (i < L.length) := hlt
      clear hx hlt
      rcases Classical.em (x = s) with he | he
      · have hb : (x.toList == s.toList) = true := by rw [str_beq_iff]; exact decide_eq_true he
        have HE : Hid (A = (i, true)) := HA.out.symm.trans (fnd_first (by rw [HX.out, he]) HN.out)
        clear he
        go_wp2
        go_ret2
        exact ⟨by rw [HE.out]; rfl, rfl⟩
      · have hb : (x.toList == s.toList) = false := by rw [str_beq_iff]; exact decide_eq_false he
        have HE : Hid (notTo L s (i + 1)) := fun k y hk hy => by
          rcases Nat.lt_or_ge k i with h1 | h1
          · exact HN.out k y h1 hy
          · obtain rfl : k = i := by omega
            rw [HX.out] at hy
            exact (Option.some.inj hy) ▸ he
        clear he
        go_wp2
        go_roundw
        case rel => exact ⟨i + 1, HT.out, by go_num, HE, trivial⟩
        case measure => have := HT.out; simp [intOf]; omega
    · obtain rfl : i = L.length := by omega
      have HE : Hid (A = (0, false)) := HA.out.symm.trans (fnd_none HN.out)
      go_wp2
      go_ret2
      exact ⟨by rw [HE.out]; rfl, rfl⟩

theorem bytesIn_take {L : List ByteArray} {i : Nat} {s : ByteArray} (h : L[i]? = some s) : bytesIn (L.take (i + 1)) = bytesIn (L.take i) + s.size := by
  obtain ⟨hi, he⟩ := List.getElem?_eq_some_iff.1 h
  rw [List.take_succ_eq_append_getElem hi, bytesIn_append, he]
  simp [bytesIn]
theorem bytesIn_take_le (L : List ByteArray) (i : Nat) : bytesIn (L.take i) ≤ bytesIn L := by
  have := bytesIn_append (L.take i) (L.drop i)
  rw [List.take_append_drop] at this
  omega

set_option maxHeartbeats 4000000 in
set_option maxRecDepth 20000 in
theorem rBytes_any (w : World) {rb : Nat} {vo : Option Addr} {vc : Nat} {L : List ByteArray} {S R : Nat} (h : RS w rb vo vc L S R) :
    Calls Try.prog 19 #[.pointer (some ⟨rb, 0, none⟩)] w fun e w' => e = .returned (.int .i64 (bytesIn L : Int)) ∧ w' = w := by
  have HR : Hid (RS w rb vo vc L S R) := h
  have c0 := cell_blk h.blk 0
  simp at c0
  have hl := h.len
  obtain ⟨A, hA⟩ : ∃ A, bytesIn L = A := ⟨_, rfl⟩
  rw [hA]
  have hA1 : (A : Int) ≤ 9223372036854775807 := by have := h.fine.room; have := h.r1; omega
  have HA : Hid (bytesIn L = A ∧ (A : Int) ≤ 9223372036854775807) := ⟨hA, hA1⟩
  clear h hA hA1
  go_enter Try.func19, Try.ntmps19
  go_wp2
  go_loopw [3, 4] (fun nv iv wr => ∃ (i n : Nat), i ≤ L.length ∧ iv = .int .i64 (i : Int) ∧ nv = .int .i64 (n : Int) ∧ Hid (n = bytesIn (L.take i)) ∧ wr = w)
    (fun _ iv _ => L.length - (intOf iv).toNat)
  case atStart => exact ⟨0, 0, Nat.zero_le _, rfl, rfl, rfl, rfl⟩
  case round =>
    obtain ⟨i, n, hi, rfl, rfl, HN, hwr⟩ := hrel
    replace hwr := hwr.symm
    subst hwr
    rcases Nat.lt_or_ge i L.length with hlt | hge
    · have hlt' : (i : Int) < (L.length : Int) := by omega
      obtain ⟨x, hx⟩ : ∃ x, L[i]? = some x := ⟨_, List.getElem?_eq_getElem hlt⟩
      obtain ⟨gv, rfl, c1⟩ := HR.out.cell hx
      have HT : Hid (i < L.length) := hlt
      have HE : Hid (n + x.size = bytesIn (L.take (i + 1))) := by show _ = _; rw [bytesIn_take hx, HN.out]
      have hw : IntKind.i64.wrap ((n : Int) + (x.size : Int)) = (n : Int) + (x.size : Int) := by
        have h1 := HE.out
        have h2 := bytesIn_take_le L (i + 1)
        have h3 := HA.out
        rw [IntKind.wrap_i64]; omega
      have hw2 : wrap64 ((n : Int) + (x.size : Int)) = (n : Int) + (x.size : Int) := by
        have h1 := HE.out
        have h2 := bytesIn_take_le L (i + 1)
        have h3 := HA.out
        unfold wrap64; omega
      clear hx hlt
      go_wp2
      go_roundw
      case rel => exact ⟨i + 1, n + x.size, HT.out, by go_num, by simp, HE, trivial⟩
      case measure => have := HT.out; simp [intOf]; omega
    · obtain rfl : i = L.length := by omega
      have HE : Hid (n = A) := by have := HN.out; rw [List.take_length] at this; exact this.trans HA.out.1
      go_wp2
      go_ret
      exact ⟨by rw [HE.out]; rfl, rfl⟩

set_option maxHeartbeats 4000000 in
set_option maxRecDepth 20000 in
theorem rGet_any (w : World) {rb : Nat} {vo : Option Addr} {vc : Nat} {L : List ByteArray} {S R : Nat} (h : RS w rb vo vc L S R) (n : Int) :
    Calls Try.prog 16 #[.pointer (some ⟨rb, 0, none⟩), .int .i64 n] w fun e w' => e = .returned (.tuple #[.string (getS L n).1, .bool (getS L n).2]) ∧ w' = w := by
  have HR : Hid (RS w rb vo vc L S R) := h
  have c0 := cell_blk h.blk 0
  simp at c0
  have hl := h.len
  obtain ⟨A, hA⟩ : ∃ A, getS L n = A := ⟨_, rfl⟩
  rw [hA]
  have HA : Hid (getS L n = A) := hA
  clear h hA
  rcases Int.lt_or_le n 0 with hn | hn
  · have HE : Hid (A = (⟨#[]⟩, false)) := HA.out.symm.trans (by unfold getS; rw [if_neg (by omega)])
    go_enter Try.func16, Try.ntmps16
    go_wp2
    go_ret2
    exact ⟨by rw [HE.out]; rfl, rfl⟩
  obtain ⟨k, rfl⟩ := Int.eq_ofNat_of_zero_le hn
  rcases Nat.lt_or_ge k L.length with hlt | hge
  · have hlt' : (k : Int) < (L.length : Int) := by omega
    obtain ⟨x, hx⟩ : ∃ x, L[k]? = some x := ⟨_, List.getElem?_eq_getElem hlt⟩
    obtain ⟨gv, rfl, c1⟩ := HR.out.cell hx
    have HE : Hid (A = (x, true)) := HA.out.symm.trans (by unfold getS; rw [if_pos hn, Int.toNat_natCast, hx])
    clear hx hlt hn
    go_enter Try.func16, Try.ntmps16
    go_wp2
    go_ret2
    exact ⟨by rw [HE.out]; rfl, rfl⟩
  · have hge' : (L.length : Int) ≤ (k : Int) := by omega
    have HE : Hid (A = (⟨#[]⟩, false)) := HA.out.symm.trans (by unfold getS; rw [if_pos hn, Int.toNat_natCast, List.getElem?_eq_none (by omega)])
    clear hn
    go_enter Try.func16, Try.ntmps16
    go_wp2
    go_ret2
    exact ⟨by rw [HE.out]; rfl, rfl⟩

end Go.Proofs.Ytmpbganbhoknpaa
