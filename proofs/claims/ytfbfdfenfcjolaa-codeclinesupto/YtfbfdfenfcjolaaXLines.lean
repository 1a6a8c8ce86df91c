/-
  What the reference's Lines does: a slice of the text's lines.
-/
import Derived.Test.YtfbfdfenfcjolaaLns
import Derived.Deep.AppendLies
import Derived.OwnWalk
namespace Go.Proofs.Ytfbfdfenfcjolaa
open Go.RowKit

theorem infoStr : (Try.prog.info? 9).map (fun i => (i.zero, i.size, i.bytes)) = some (some (.string ⟨#[]⟩), 1, 16) := by kernel_rfl

/-- Texts as cells. -/
def strCells (xs : List ByteArray) : List Value := xs.map Value.string

theorem headLn_app (A B : List UInt8) (h : ∀ c ∈ A, ¬ c = 10) : headLn (A ++ 10 :: B) = A ∧ tailLn (A ++ 10 :: B) = B := by
  induction A with
  | nil => simp [headLn, tailLn]
  | cons c r ih =>
    obtain ⟨a, b⟩ := ih (fun x hx => h x (by simp [hx]))
    have hc : ¬ c = 10 := h c (by simp)
    rw [List.cons_append, headLn_cons _ hc, tailLn_cons _ hc, a, b]
    exact ⟨rfl, rfl⟩

theorem headLn_end (A : List UInt8) (h : ∀ c ∈ A, ¬ c = 10) : headLn A = A ∧ tailLn A = [] := by
  induction A with
  | nil => simp [headLn, tailLn]
  | cons c r ih =>
    obtain ⟨a, b⟩ := ih (fun x hx => h x (by simp [hx]))
    have hc : ¬ c = 10 := h c (by simp)
    rw [headLn_cons _ hc, tailLn_cons _ hc, a, b]
    exact ⟨rfl, rfl⟩

/-- The bytes from st up to i. -/
def seg (s : ByteArray) (st i : Nat) : List UInt8 := ((bytesOf s).take i).drop st

theorem seg_mem {s : ByteArray} {st i : Nat} {c : UInt8} (h : c ∈ seg s st i) : ∃ k, st ≤ k ∧ k < i ∧ (bytesOf s)[k]? = some c := by
  obtain ⟨j, hj, e⟩ := List.getElem_of_mem h
  unfold seg at hj e
  simp at hj
  refine ⟨st + j, by omega, by omega, ?_⟩
  rw [List.getElem_drop, List.getElem_take] at e
  rw [← e]
  exact List.getElem?_eq_getElem _

theorem drop_seg {s : ByteArray} {st i : Nat} (h : st ≤ i) (hi : i < s.size) : (bytesOf s).drop st = seg s st i ++ s[i] :: (bytesOf s).drop (i + 1) := by
  have e : (bytesOf s).drop i = s[i] :: (bytesOf s).drop (i + 1) := by
    rw [List.drop_eq_getElem_cons (by rw [bytesOf_length]; exact hi)]
    simp [bytesOf]; rfl
  rw [← e]
  unfold seg
  have := List.drop_append_of_le_length (l₁ := (bytesOf s).take i) (l₂ := (bytesOf s).drop i) (i := st) (by simp [bytesOf_length]; omega)
  rw [List.take_append_drop] at this
  exact this

theorem at_get (s : ByteArray) (k : Nat) (h : k < s.size) : (bytesOf s)[k]? = some s[k] := by
  rw [List.getElem?_eq_getElem (by rw [bytesOf_length]; exact h)]
  simp [bytesOf]; rfl

/-- What is there in the midst of the loop. -/
structure MidL (s : ByteArray) (w wr : World) (lv : Value) (st i : Nat) (xs : List ByteArray) : Prop where
  row : wr.ownsRow w.heap.size 9 1 lv xs.length (strCells xs)
  len : xs.length ≤ st
  sti : st ≤ i
  le : i ≤ s.size
  bel : Below w.heap.size w wr
  lns : lns (bytesOf s) = xs.map bytesOf ++ lns ((bytesOf s).drop st)
  no : ∀ c ∈ seg s st i, ¬ c = 10

theorem MidL.next {s : ByteArray} {w wr : World} {lv : Value} {st i : Nat} {xs : List ByteArray} (h : MidL s w wr lv st i xs) (hi : i < s.size) (hn : ¬ s[i] = 10) : MidL s w wr lv st (i + 1) xs :=
  ⟨h.row, h.len, by have := h.sti; omega, hi, h.bel, h.lns, fun c hc => by
    obtain ⟨k, h1, h2, h3⟩ := seg_mem hc
    by_cases hk : k < i
    · refine h.no c ?_
      unfold seg
      have e : (((bytesOf s).take i).drop st)[k - st]? = some c := by
        simp [List.getElem?_drop, show st + (k - st) = k by omega, hk, h3]
      exact List.mem_of_getElem? e
    · have : k = i := by omega
      subst this
      rw [at_get s k hi] at h3
      cases h3
      exact hn⟩

theorem MidL.push {s : ByteArray} {w wr w1 : World} {lv v' : Value} {st i : Nat} {xs : List ByteArray} (h : MidL s w wr lv st i xs) (hi : i < s.size) (hn : s[i] = 10)
    (hrow : w1.ownsRow w.heap.size 9 1 v' (xs.length + 1) (strCells xs ++ [.string (s.extract st i)])) (hb : Below w.heap.size w w1) : MidL s w w1 v' (i + 1) (i + 1) (xs ++ [s.extract st i]) :=
  ⟨by simpa [strCells] using hrow, by have := h.len; have := h.sti; simp; omega, Nat.le_refl _, hi, hb, by
    have hd := drop_seg h.sti hi
    rw [hn] at hd
    obtain ⟨a, b⟩ := headLn_app (seg s st i) ((bytesOf s).drop (i + 1)) h.no
    have hs := lns_step ((bytesOf s).drop st) (by rw [hd]; simp)
    rw [hd, a, b] at hs
    rw [h.lns, hd, hs]
    have e : bytesOf (s.extract st i) = seg s st i := by rw [extract_eq, bytesOf_strL]; rfl
    simp [e], fun c hc => by obtain ⟨k, h1, h2, _⟩ := seg_mem hc; omega⟩

theorem row_base {W : World} {base : Nat} {e : TypeId} {size : Nat} {v : Value} {n : Nat} {xs : List Value} (h : W.ownsRow base e size v n xs) : ∀ k, v.ownBlock = some k → base ≤ k := by
  intro k hk
  rcases h.2 with ⟨rfl, _⟩ | ⟨g, cap, cur, rfl, hb, _⟩
  · simp [Value.ownBlock] at hk
  · simp [Value.ownBlock] at hk; omega

theorem MidL.done {s : ByteArray} {w wr : World} {lv : Value} {st i : Nat} {xs : List ByteArray} (h : MidL s w wr lv st i xs) (hi : i = s.size) (hs : st = i) : xs.map bytesOf = Go.Proofs.Ytfbfdfenfcjolaa.lns (bytesOf s) := by
  rw [h.lns, List.drop_eq_nil_of_le (by rw [bytesOf_length]; omega)]
  simp [Go.Proofs.Ytfbfdfenfcjolaa.lns]

theorem MidL.last {s : ByteArray} {w wr : World} {lv : Value} {st i : Nat} {xs : List ByteArray} (h : MidL s w wr lv st i xs) (hi : i = s.size) (hs : st < i) : (xs ++ [s.extract st s.size]).map bytesOf = Go.Proofs.Ytfbfdfenfcjolaa.lns (bytesOf s) := by
  have e : bytesOf (s.extract st s.size) = (bytesOf s).drop st := by
    rw [extract_eq, bytesOf_strL, List.take_of_length_le (by rw [bytesOf_length]; exact Nat.le_refl _)]
  have e2 : seg s st i = (bytesOf s).drop st := by unfold seg; rw [List.take_of_length_le (by rw [bytesOf_length]; omega)]
  have hne : (bytesOf s).drop st ≠ [] := fun h0 => by
    have : ((bytesOf s).drop st).length = 0 := by rw [h0]; rfl
    rw [List.length_drop, bytesOf_length] at this
    omega
  obtain ⟨a, b⟩ := headLn_end ((bytesOf s).drop st) (by rw [← e2]; exact h.no)
  rw [h.lns, lns_step _ hne, a, b]
  simp [Go.Proofs.Ytfbfdfenfcjolaa.lns, e]

set_option maxHeartbeats 4000000 in
set_option maxRecDepth 100000 in
theorem xLines_any (s : ByteArray) (hs : s.size ≤ 1048576) (w : World) :
    Calls Try.prog 28 #[.string s] w fun e w' => ∃ v xs, e = .returned v ∧ w'.ownsRow w.heap.size 9 1 v xs.length (strCells xs) ∧ xs.map bytesOf = lns (bytesOf s) ∧ Below w.heap.size w w' := by
  obtain ⟨i0, hi, hz0, hz1, hz2⟩ := info_parts infoStr
  have HS : Hid (s.size ≤ 1048576) := hs
  clear hs
  go_enter Try.func28, Try.ntmps28
  go_wp2
  go_loopw [3, 4, 5] (fun lv sv iv wr => ∃ (st i : Nat) (xs : List ByteArray), sv = .int .i64 (st : Int) ∧ iv = .int .i64 (i : Int) ∧ MidL s w wr lv st i xs)
    (fun _ _ iv _ => s.size - (intOf iv).toNat)
  case atStart => exact ⟨0, 0, [], rfl, rfl, World.ownsRow_nil _ _ _ _, Nat.le_refl _, Nat.le_refl _, Nat.zero_le _, Below.refl _ _, rfl, by simp [seg]⟩
  case round =>
    obtain ⟨st, i, xs, rfl, rfl, hM⟩ := hrel
    have hle := hM.le
    have hst := hM.sti
    have HL : Hid _ := hM.len
    have HM : Hid _ := hM
    have hb := hM.bel
    have hrow := hM.row
    clear hM
    by_cases hlt : i < s.size
    · have hlt' : (i : Int) < (s.size : Int) := by omega
      by_cases h10 : s[i] = 10
      · have hx : s[i].toNat = 10 := by rw [h10]; rfl
        have hib : (i : Int) ≤ 1048576 := by have := HS.out; omega
        have h0 : (0 : Int) ≤ (st : Int) := by omega
        have h1 : (st : Int) ≤ (i : Int) := by omega
        go_wp2_with (first
          | (at_builtin; refine wpList_append_lies _ rfl _ _ _ rfl w.heap.size 9 i0 (.string ⟨#[]⟩) 1 16 Try.underlying55 hi hz0 hz1 hz2 rfl (by omega) _ _ _ rfl (hrow.alloc _) ⟨wr.heap.size, 0, none⟩ 1 1 [.string (s.extract st i)] rfl rfl (World.news_of_block (heap_alloc_new wr _)) (by simp [Value.oneCell']) (by omega) (by have := HS.out; have := HL.out; unfold maxLen; omega) (by have := HS.out; have := HL.out; omega) (by have := hb.size; simp; omega) (wr.heap.size + 1) (by simp) ?_; intro g cap w1 hown hgrow hat hg))
        go_roundw
        case rel => exact ⟨i + 1, i + 1, xs ++ [s.extract st i], by go_num, by go_num, HM.out.push hlt h10 hown ((hb.alloc hb.size _).grown hgrow (by have := hb.size; simp; omega) (row_base hrow))⟩
        case measure => simp [intOf]; omega
      · have hx : ¬ s[i].toNat = 10 := fun e => h10 (UInt8.toNat_inj.1 e)
        have hib : (i : Int) ≤ 1048576 := by have := HS.out; omega
        go_wp2
        go_roundw
        case rel => exact ⟨st, i + 1, xs, rfl, by go_num, HM.out.next hlt h10⟩
        case measure => simp [intOf]; omega
    · have hge : ¬ (i : Int) < (s.size : Int) := by omega
      have his : i = s.size := by omega
      by_cases hst2 : st < i
      · have hlt2 : (st : Int) < (s.size : Int) := by omega
        have h0 : (0 : Int) ≤ (st : Int) := by omega
        go_wp2_with (first
          | (at_builtin; refine wpList_append_lies _ rfl _ _ _ rfl w.heap.size 9 i0 (.string ⟨#[]⟩) 1 16 Try.underlying55 hi hz0 hz1 hz2 rfl (by omega) _ _ _ rfl (hrow.alloc _) ⟨wr.heap.size, 0, none⟩ 1 1 [.string (s.extract st s.size)] rfl rfl (World.news_of_block (heap_alloc_new wr _)) (by simp [Value.oneCell']) (by omega) (by have := HS.out; have := HL.out; unfold maxLen; omega) (by have := HS.out; have := HL.out; omega) (by have := hb.size; simp; omega) (wr.heap.size + 1) (by simp) ?_; intro g cap w1 hown hgrow hat hg))
        go_ret
        exact ⟨_, rfl, xs ++ [s.extract st s.size], by have := hown; simpa [strCells] using this, HM.out.last his hst2, (hb.alloc hb.size _).grown hgrow (by have := hb.size; simp; omega) (row_base hrow)⟩
      · have hge2 : ¬ (st : Int) < (s.size : Int) := by omega
        go_wp2
        go_ret
        exact ⟨_, rfl, xs, hrow, HM.out.done his (by omega), hb⟩
end Go.Proofs.Ytfbfdfenfcjolaa
