/-
  PrTell, PrClone, PrPair0, PrLk2, PrPair, PrOf, PrOften, PrBeside, PrNext0.
-/
import Derived.OwnWalkIn
import Derived.Stop.Asserts
import Derived.TacticsInMore
import Derived.Test.YtmlpndcelfdlhaaM25
import Derived.Test.YtmlpndcelfdlhaaM28
import Derived.Test.YtmlpndcelfdlhaaM31
/-
  A pair over a graph tells nothing more: tellingAll.
-/
set_option linter.unusedVariables false
set_option linter.unusedSimpArgs false
namespace Go.Proofs.Ytmlpndcelfdlhaa
open Go.RowKit

theorem p_noStatic (v : Value) (w : World) : (Instr.typeAssert (.iface 54 v) 26 83 true).run Try.prog w = .ok (.tuple #[.nilIface, .bool false]) w := run_typeAssert_lacksB Try.underlying83 (by kernel_rfl) (by kernel_rfl) v 26 w

set_option maxHeartbeats 4000000 in
set_option maxRecDepth 40000 in
theorem tellingAll_any (w : World) (F : Nat → Prop) (pb : Nat) (rv : Value) (A : List ASt) (so sc no nc : Nat) (h : PairIs w F pb (.iface 54 rv) A so sc no nc) :
    Calls Try.prog 14 #[.pointer (some ⟨pb, 0, none⟩)] w fun e w' => e = .returned (.iface 60 (.pointer (some ⟨pb, 0, none⟩))) ∧ Nu w w' := by
  have c0 := cell_blk h.blk 0
  simp only [List.size_toArray, List.length_cons, List.length_nil, Nat.reduceAdd, Nat.lt_add_one, Nat.reduceLT, getElem?_pos, List.getElem_toArray, List.getElem_cons_zero, List.getElem_cons_succ, Nat.zero_lt_succ] at c0
  clear h
  have hta := p_noStatic rv
  go_enter Try.func14, Try.ntmps14
  go_wp2
  go_ret
  exact ⟨rfl, Mv.refl _ _⟩

end Go.Proofs.Ytmlpndcelfdlhaa
/-
  Copies of an automaton's rows: slices.Clone of moves and of states.
-/
set_option linter.unusedVariables false
set_option linter.unusedSimpArgs false
namespace Go.Proofs.Ytmlpndcelfdlhaa
open Go.RowKit

def AMv.cells (m : AMv) : List Value := [.int .u64 m.yes, .int .u64 m.no, .int .i64 (m.to : Int)]
/-- A state and where its moves lie. -/
structure SX where
  st : ASt
  mo : Option Addr
  mc : Nat
def SX.cells (x : SX) : List Value := [.bool x.st.acc, .slice x.mo x.st.mvs.length x.mc]

def mvflat : List AMv → List Value
  | [] => []
  | x :: r => x.cells ++ mvflat r
theorem mvflat_length (l : List AMv) : (mvflat l).length = l.length * 3 := by
  induction l with
  | nil => rfl
  | cons s r ih => rw [mvflat, List.length_append, ih, List.length_cons]; simp [AMv.cells]; omega
theorem mvflat_get : ∀ (l : List AMv) (i : Nat) (h : i < l.length) (k : Nat), k < 3 → (mvflat l)[i * 3 + k]? = (l[i]).cells[k]?
  | s :: r, 0, _, k, hk => by
    rw [mvflat, Nat.zero_mul, Nat.zero_add, List.getElem?_append_left (by simpa [AMv.cells] using hk)]
    rfl
  | s :: r, i + 1, h, k, hk => by
    have hi : i < r.length := by simpa using h
    rw [mvflat, List.getElem?_append_right (by simp [AMv.cells]; omega), show (i + 1) * 3 + k - s.cells.length = i * 3 + k by simp [AMv.cells]; omega, mvflat_get r i hi k hk]
    rfl
theorem mvflat_cell {l : List AMv} {W : World} {b : Nat} (h : ∀ i (hi : i < l.length) k u, (l[i]).cells[k]? = some u → W.cell? ⟨b, i * 3 + k, none⟩ = some u) : ∀ j u, (mvflat l)[j]? = some u → W.cell? ⟨b, 0 + j, none⟩ = some u := by
  intro j u hj
  have hlt := (List.getElem?_eq_some_iff.1 hj).1
  rw [mvflat_length] at hlt
  have hi : j / 3 < l.length := by omega
  have hk : j % 3 < 3 := by omega
  have e : j = j / 3 * 3 + j % 3 := by omega
  rw [e, mvflat_get l _ hi _ hk] at hj
  rw [Nat.zero_add, e]
  exact h _ hi _ _ hj
theorem mvflat_one (l : List AMv) : ∀ u ∈ mvflat l, u.oneCell' = true := by
  induction l with
  | nil => intro u hu; cases hu
  | cons s r ih =>
    intro u hu
    rw [mvflat] at hu
    rcases List.mem_append.1 hu with h | h
    · simp [AMv.cells] at h
      rcases h with rfl | rfl | rfl <;> rfl
    · exact ih u h

theorem p_info_mvflat : (Try.prog.info? 36).map (fun i => (i.zero, i.size, i.bytes)) = some (some (.agg #[.int .u64 0, .int .u64 0, .int .i64 0]), 3, 24) := by kernel_rfl

set_option maxHeartbeats 2000000 in
set_option maxRecDepth 100000 in
theorem Clone_mvflat (w : World) (ad : Addr) (cap : Nat) (l : List AMv) (hit : ∀ j u, (mvflat l)[j]? = some u → w.cell? (ad.add j) = some u) (hl : l.length ≤ 131072) : Calls Try.prog 25 #[.slice (some ad) l.length cap] w fun e w' => Nu w w' ∧ ∃ ao' cap', e = .returned (.slice ao' l.length cap') ∧ w'.ownsRow w.heap.size 36 3 (.slice ao' l.length cap') l.length (mvflat l) := by
  have HR := hid hit
  clear hit
  have q22 : ∀ (w : World) (a : Option Addr) (n c n' c' : Nat), (binOp .eql 37 (.slice a n c) (.slice none n' c')).run Try.prog w = .ok (.bool a.isNone) w := fun w a n c n' c' => Lib.run_eql_slice_nil w _ _ a n c n' c' Try.underlying37
  obtain ⟨i0, hi, hz0, hz1, hz2⟩ := p_info_parts p_info_mvflat
  go_enter Try.func25, Try.ntmps25
  go_wp2_with (at_builtin; refine wpList_append_own _ rfl _ _ 37 rfl w.heap.size 36 i0 (.agg #[.int .u64 0, .int .u64 0, .int .i64 0]) 3 24 Try.underlying37 hi hz0 hz1 hz2 rfl (by decide) _ _ _ rfl (World.ownsRow_made w #[] 0 (Nat.le_refl _) (Nat.zero_le _) rfl) ad l.length cap (mvflat l) rfl ?qc1 ?qc2 ?qc3 ?qc4 ?qc5 ?qc6 ?_)
  case qc1 => exact mvflat_length l
  case qc2 =>
    intro j u hj
    exact Lib.cell?_alloc_some _ (HR.out j u hj)
  case qc3 => exact mvflat_one l
  case qc4 => unfold maxLen; omega
  case qc5 => omega
  case qc6 => simp
  intro v' w1 hown hgrow hnil
  go_wp2
  go_ret
  have hb : Below w.heap.size w w1 := ((Below.refl _ w).alloc (Nat.le_refl _) _).grown hgrow (by simp) (by intro k hk; simp [Value.ownBlock] at hk; omega)
  refine ⟨Nu.of_below hb, ?_⟩
  rcases hown.2 with ⟨hv, hn⟩ | ⟨g, cap', cur, hv, hg, hblk, hle, hmax, hsz, hcur⟩
  · exact absurd hv hnil
  · subst hv
    exact ⟨_, _, rfl, hown⟩

def stflat : List SX → List Value
  | [] => []
  | x :: r => x.cells ++ stflat r
theorem stflat_length (l : List SX) : (stflat l).length = l.length * 2 := by
  induction l with
  | nil => rfl
  | cons s r ih => rw [stflat, List.length_append, ih, List.length_cons]; simp [SX.cells]; omega
theorem stflat_get : ∀ (l : List SX) (i : Nat) (h : i < l.length) (k : Nat), k < 2 → (stflat l)[i * 2 + k]? = (l[i]).cells[k]?
  | s :: r, 0, _, k, hk => by
    rw [stflat, Nat.zero_mul, Nat.zero_add, List.getElem?_append_left (by simpa [SX.cells] using hk)]
    rfl
  | s :: r, i + 1, h, k, hk => by
    have hi : i < r.length := by simpa using h
    rw [stflat, List.getElem?_append_right (by simp [SX.cells]; omega), show (i + 1) * 2 + k - s.cells.length = i * 2 + k by simp [SX.cells]; omega, stflat_get r i hi k hk]
    rfl
theorem stflat_cell {l : List SX} {W : World} {b : Nat} (h : ∀ i (hi : i < l.length) k u, (l[i]).cells[k]? = some u → W.cell? ⟨b, i * 2 + k, none⟩ = some u) : ∀ j u, (stflat l)[j]? = some u → W.cell? ⟨b, 0 + j, none⟩ = some u := by
  intro j u hj
  have hlt := (List.getElem?_eq_some_iff.1 hj).1
  rw [stflat_length] at hlt
  have hi : j / 2 < l.length := by omega
  have hk : j % 2 < 2 := by omega
  have e : j = j / 2 * 2 + j % 2 := by omega
  rw [e, stflat_get l _ hi _ hk] at hj
  rw [Nat.zero_add, e]
  exact h _ hi _ _ hj
theorem stflat_one (l : List SX) : ∀ u ∈ stflat l, u.oneCell' = true := by
  induction l with
  | nil => intro u hu; cases hu
  | cons s r ih =>
    intro u hu
    rw [stflat] at hu
    rcases List.mem_append.1 hu with h | h
    · simp [SX.cells] at h
      rcases h with rfl | rfl <;> rfl
    · exact ih u h

theorem p_info_stflat : (Try.prog.info? 39).map (fun i => (i.zero, i.size, i.bytes)) = some (some (.agg #[.bool false, .slice none 0 0]), 2, 32) := by kernel_rfl

set_option maxHeartbeats 2000000 in
set_option maxRecDepth 100000 in
theorem Clone_stflat (w : World) (ad : Addr) (cap : Nat) (l : List SX) (hit : ∀ j u, (stflat l)[j]? = some u → w.cell? (ad.add j) = some u) (hl : l.length ≤ 4096) : Calls Try.prog 24 #[.slice (some ad) l.length cap] w fun e w' => Nu w w' ∧ ∃ ao' cap', e = .returned (.slice ao' l.length cap') ∧ w'.ownsRow w.heap.size 39 2 (.slice ao' l.length cap') l.length (stflat l) := by
  have HR := hid hit
  clear hit
  have q22 : ∀ (w : World) (a : Option Addr) (n c n' c' : Nat), (binOp .eql 40 (.slice a n c) (.slice none n' c')).run Try.prog w = .ok (.bool a.isNone) w := fun w a n c n' c' => Lib.run_eql_slice_nil w _ _ a n c n' c' Try.underlying40
  obtain ⟨i0, hi, hz0, hz1, hz2⟩ := p_info_parts p_info_stflat
  go_enter Try.func24, Try.ntmps24
  go_wp2_with (at_builtin; refine wpList_append_own _ rfl _ _ 40 rfl w.heap.size 39 i0 (.agg #[.bool false, .slice none 0 0]) 2 32 Try.underlying40 hi hz0 hz1 hz2 rfl (by decide) _ _ _ rfl (World.ownsRow_made w #[] 0 (Nat.le_refl _) (Nat.zero_le _) rfl) ad l.length cap (stflat l) rfl ?qc1 ?qc2 ?qc3 ?qc4 ?qc5 ?qc6 ?_)
  case qc1 => exact stflat_length l
  case qc2 =>
    intro j u hj
    exact Lib.cell?_alloc_some _ (HR.out j u hj)
  case qc3 => exact stflat_one l
  case qc4 => unfold maxLen; omega
  case qc5 => omega
  case qc6 => simp
  intro v' w1 hown hgrow hnil
  go_wp2
  go_ret
  have hb : Below w.heap.size w w1 := ((Below.refl _ w).alloc (Nat.le_refl _) _).grown hgrow (by simp) (by intro k hk; simp [Value.ownBlock] at hk; omega)
  refine ⟨Nu.of_below hb, ?_⟩
  rcases hown.2 with ⟨hv, hn⟩ | ⟨g, cap', cur, hv, hg, hblk, hle, hmax, hsz, hcur⟩
  · exact absurd hv hnil
  · subst hv
    exact ⟨_, _, rfl, hown⟩

theorem MvsAt.cell {W : World} {F : Nat → Prop} {ad : Addr} {l : List AMv} (h : MvsAt W F (some ad) l) : ∀ j u, (mvflat l)[j]? = some u → W.cell? (ad.add j) = some u := by
  rcases h with h0 | ⟨mb, hm, _, hit⟩
  · intro j u hj
    rw [List.length_eq_zero_iff.1 h0] at hj
    simp [mvflat] at hj
  · cases hm
    intro j u hj
    rw [Addr.add_lit]
    refine mvflat_cell (fun i hi k u hk => ?_) j u hj
    obtain ⟨h0, h1, h2⟩ := hit i hi
    have : k = 0 ∨ k = 1 ∨ k = 2 := by have := (List.getElem?_eq_some_iff.1 hk).1; simp [AMv.cells] at this; omega
    rcases this with rfl | rfl | rfl <;> simp [AMv.cells] at hk <;> subst hk <;> assumption

set_option maxHeartbeats 1000000 in
theorem CloneM_any (w : World) (F : Nat → Prop) (mo : Option Addr) (mc : Nat) (l : List AMv) (h : MvsAt w F mo l) (hl : l.length ≤ 131072) : Calls Try.prog 25 #[.slice mo l.length mc] w fun e w' => Nu w w' ∧ ∃ ao' cap', e = .returned (.slice ao' l.length cap') ∧ w'.ownsRow w.heap.size 36 3 (.slice ao' l.length cap') l.length (mvflat l) := by
  cases mo with
  | some ad => exact Clone_mvflat w ad mc l h.cell hl
  | none =>
    have h0 : l = [] := by
      rcases h with h0 | ⟨mb, hm, _⟩
      · exact List.length_eq_zero_iff.1 h0
      · cases hm
    subst h0
    have q22 : ∀ (w : World) (a : Option Addr) (n c n' c' : Nat), (binOp .eql 37 (.slice a n c) (.slice none n' c')).run Try.prog w = .ok (.bool a.isNone) w := fun w a n c n' c' => Lib.run_eql_slice_nil w _ _ a n c n' c' Try.underlying37
    go_enter Try.func25, Try.ntmps25
    go_wp2
    go_ret
    exact ⟨Mv.refl _ _, none, 0, rfl, World.ownsRow_nil _ _ _ _⟩

end Go.Proofs.Ytmlpndcelfdlhaa
/-
  pairOf: what lies in memory while it copies an automaton.
-/
set_option linter.unusedVariables false
set_option linter.unusedSimpArgs false
namespace Go.Proofs.Ytmlpndcelfdlhaa
open Go.RowKit

def numsTo (j : Nat) : List ByteArray := (List.range j).map nst
theorem numsTo_succ (j : Nat) : numsTo (j + 1) = numsTo j ++ [nst j] := by unfold numsTo; rw [List.range_succ, List.map_append]; rfl
theorem numsTo_len (j : Nat) : (numsTo j).length = j := by simp [numsTo]

theorem stflat_set : ∀ {l : List SX} {i k : Nat} {u : Value} {x' : SX} (hi : i < l.length), k < 2 → x'.cells = (l[i]).cells.set k u → (stflat l).set (i * 2 + k) u = stflat (l.set i x')
  | s :: r, 0, k, u, x', _, hk, hx => by
    rw [stflat, List.set_cons_zero, stflat, Nat.zero_mul, Nat.zero_add, List.set_append_left _ _ (by simpa [SX.cells] using hk)]
    rw [hx]
    rfl
  | s :: r, i + 1, k, u, x', hi, hk, hx => by
    have hi' : i < r.length := by simpa using hi
    rw [stflat, List.set_cons_succ, stflat, List.set_append_right _ _ (by simp [SX.cells]; omega), show (i + 1) * 2 + k - s.cells.length = i * 2 + k by simp [SX.cells]; omega, stflat_set hi' hk hx]

theorem own_base {w : World} {B B' : Nat} {e : TypeId} {size n : Nat} {v : Value} {xs : List Value} (h : w.ownsRow B' e size v n xs) (hB : B ≤ B') : w.ownsRow B e size v n xs :=
  ⟨h.1, h.2.imp id fun ⟨g, cap, cur, hv, hg, r⟩ => ⟨g, cap, cur, hv, Nat.le_trans hB hg, r⟩⟩

structure PO (w W : World) (F : Nat → Prop) (pb : Nat) (sv : Value) (A : List ASt) (g cap : Nat) (xs : List SX) (na : Option Addr) (nc j m : Nat) : Prop where
  eq : xs.map SX.st = A
  ge : w.heap.size ≤ pb
  blk : W.heap[pb]? = some (.cells #[sv, .slice (some ⟨g, 0, none⟩) A.length cap, .slice na j nc] 86 (0, 0))
  row : W.ownsRow w.heap.size 39 2 (.slice (some ⟨g, 0, none⟩) A.length cap) A.length (stflat xs)
  num : W.ownsRow w.heap.size 9 1 (.slice na j nc) j ((numsTo j).map Value.string)
  new : ∀ i (h : i < xs.length), i < m → W.ownsRow w.heap.size 36 3 (.slice xs[i].mo xs[i].st.mvs.length xs[i].mc) xs[i].st.mvs.length (mvflat xs[i].st.mvs)
  old : ∀ i (h : i < xs.length), m ≤ i → MvsAt w F xs[i].mo xs[i].st.mvs
  nu : Nu w W

theorem PO.len {w W : World} {F : Nat → Prop} {pb : Nat} {sv : Value} {A : List ASt} {g cap : Nat} {xs : List SX} {na : Option Addr} {nc j m : Nat} (h : PO w W F pb sv A g cap xs na nc j m) : xs.length = A.length := by rw [← h.eq, List.length_map]

theorem PO.keep {w W W2 : World} {F : Nat → Prop} {pb : Nat} {sv : Value} {A : List ASt} {g cap : Nat} {xs : List SX} {na : Option Addr} {nc j m : Nat} (h : PO w W F pb sv A g cap xs na nc j m) (hn : Nu W W2) : PO w W2 F pb sv A g cap xs na nc j m :=
  ⟨h.eq, h.ge, hn.heap h.blk id, row_mv hn h.row (fun _ _ => id), row_mv hn h.num (fun _ _ => id), fun i hi hm => row_mv hn (h.new i hi hm) (fun _ _ => id), h.old, mv0 h.nu hn⟩

/-- The cell of a state's moves. -/
theorem PO.cell {w W : World} {F : Nat → Prop} {pb : Nat} {sv : Value} {A : List ASt} {g cap : Nat} {xs : List SX} {na : Option Addr} {nc j m : Nat} (h : PO w W F pb sv A g cap xs na nc j m) {i : Nat} (hi : i < xs.length) {k : Nat} {u : Value} (hk : k < 2) (hu : (xs[i]).cells[k]? = some u) : W.cell? ⟨g, i * 2 + k, none⟩ = some u := by
  have := h.row.cells (g := g) rfl (i * 2 + k) u (by rw [stflat_get xs i hi k hk]; exact hu)
  rw [Addr.add_lit, Nat.zero_add] at this
  exact this

theorem blk_ne {W : World} {a b : Nat} {ca cb : Array Value} {ta tb : TypeId} (ha : W.heap[a]? = some (.cells ca ta (0, 0))) (hb : W.heap[b]? = some (.cells cb tb (0, 0))) (h : ta ≠ tb) : a ≠ b := fun e => by
  subst e
  rw [ha] at hb
  simp only [Option.some.injEq, Obj.cells.injEq] at hb
  exact h hb.2.1

/-- The moves of the next state are copied. -/
theorem PO.setMv {w W W2 : World} {F : Nat → Prop} {pb : Nat} {sv : Value} {A : List ASt} {g cap : Nat} {xs : List SX} {na : Option Addr} {nc j m : Nat} (h0 : PO w W F pb sv A g cap xs na nc j m) (hm : m < xs.length) (hn : Nu W W2) {ao : Option Addr} {ac H : Nat} (hH : w.heap.size ≤ H) (hown : W2.ownsRow H 36 3 (.slice ao xs[m].st.mvs.length ac) xs[m].st.mvs.length (mvflat xs[m].st.mvs)) :
    PO w (W2.setCell ⟨g, m * 2 + 1, none⟩ (.slice ao xs[m].st.mvs.length ac)) F pb sv A g cap (xs.set m ⟨xs[m].st, ao, ac⟩) na nc j (m + 1) := by
  have h := h0.keep hn
  have hms : Mv (· = g) W2 (W2.setCell ⟨g, m * 2 + 1, none⟩ (.slice ao xs[m].st.mvs.length ac)) := Mv.setCell W2 ⟨g, m * 2 + 1, none⟩ _
  obtain ⟨hgB, hgL, cg, hcg⟩ := row_blk h.row (k := g) rfl
  have hrow := row_set h.row (g := g) rfl (j := m * 2 + 1) (by rw [stflat_length]; omega) (.slice ao xs[m].st.mvs.length ac)
  rw [stflat_set (x' := ⟨xs[m].st, ao, ac⟩) hm (by omega) (by simp [SX.cells])] at hrow
  have hne : ∀ {B size n : Nat} {e : TypeId} {v : Value} {ys : List Value}, W2.ownsRow B e size v n ys → e ≠ 39 → (W2.setCell ⟨g, m * 2 + 1, none⟩ (.slice ao xs[m].st.mvs.length ac)).ownsRow B e size v n ys := fun hr he => row_mv hms hr (fun k hk e => by
    obtain ⟨_, _, cs, hc⟩ := row_blk hr hk
    exact blk_ne hc hcg he e)
  refine ⟨?_, h.ge, hms.heap h.blk (fun e => blk_ne h.blk hcg (by decide) e), hrow, hne h.num (by decide), fun i hi hil => ?_, fun i hi hil => ?_, h.nu.trans hms (fun x hx => .inr (by omega))⟩
  · rw [List.map_set, h.eq]
    have : A[m]? = some xs[m].st := by rw [← h.eq, List.getElem?_map, List.getElem?_eq_getElem hm]; rfl
    apply List.ext_getElem?
    intro i
    rw [List.getElem?_set]
    split
    · rename_i hmi
      subst hmi
      rw [this, if_pos (by rw [← h.len]; exact hm)]
    · rfl
  · have hi' : i < xs.length := by simpa using hi
    by_cases hmi : m = i
    · subst hmi
      simp only [List.getElem_set_self]
      exact hne (own_base hown hH) (by decide)
    · simp only [List.getElem_set_ne hmi]
      exact hne (h.new i hi' (by omega)) (by decide)
  · have hi' : i < xs.length := by simpa using hi
    simp only [List.getElem_set_ne (show m ≠ i by omega)]
    exact h.old i hi' (by omega)

/-- The next number is appended. -/
theorem PO.setNum {w W W3 : World} {F : Nat → Prop} {pb : Nat} {sv : Value} {A : List ASt} {g cap : Nat} {xs : List SX} {na : Option Addr} {nc j m : Nat} (h : PO w W F pb sv A g cap xs na nc j m) {g5 nc5 : Nat} (hg : W.grownBy W3 (Value.slice na j nc).ownBlock) (hown : W3.ownsRow w.heap.size 9 1 (.slice (some ⟨g5, 0, none⟩) (j + 1) nc5) (j + 1) ((numsTo (j + 1)).map Value.string)) :
    PO w (W3.setCell ⟨pb, 2, none⟩ (.slice (some ⟨g5, 0, none⟩) (j + 1) nc5)) F pb sv A g cap xs (some ⟨g5, 0, none⟩) nc5 (j + 1) m := by
  have hmg := Mv.grown hg
  have hno : ∀ {b : Nat} {cs : Array Value} {t : TypeId}, W.heap[b]? = some (.cells cs t (0, 0)) → t ≠ 9 → ¬ ((Value.slice na j nc).ownBlock = some b) := fun hb ht e => by
    obtain ⟨_, _, cs, hc⟩ := row_blk h.num e
    exact blk_ne hb hc ht rfl
  have hb3 := hmg.heap h.blk (hno h.blk (by decide))
  have hms : Mv (· = pb) W3 (W3.setCell ⟨pb, 2, none⟩ (.slice (some ⟨g5, 0, none⟩) (j + 1) nc5)) := Mv.setCell W3 ⟨pb, 2, none⟩ _
  have hne : ∀ {B size n : Nat} {e : TypeId} {v : Value} {ys : List Value}, W.ownsRow B e size v n ys → e ≠ 9 → e ≠ 86 → (W3.setCell ⟨pb, 2, none⟩ (.slice (some ⟨g5, 0, none⟩) (j + 1) nc5)).ownsRow B e size v n ys := fun hr he he2 => by
    have h3 := row_mv hmg hr (fun k hk => by
      obtain ⟨_, _, cs, hc⟩ := row_blk hr hk
      exact hno hc he)
    exact row_mv hms h3 (fun k hk e => by
      obtain ⟨_, _, cs, hc⟩ := row_blk h3 hk
      exact blk_ne hc hb3 he2 e)
  refine ⟨h.eq, h.ge, setCell_blk hb3, hne h.row (by decide) (by decide), row_mv hms hown (fun k hk e => ?_), fun i hi him => hne (h.new i hi him) (by decide) (by decide), h.old, (h.nu.trans hmg (fun x hx => .inr (by have := (row_blk h.num hx).1; omega))).trans hms (fun x hx => .inr (by have := h.ge; omega))⟩
  obtain ⟨_, _, cs, hc⟩ := row_blk hown hk
  exact blk_ne hc hb3 (by decide) e

end Go.Proofs.Ytmlpndcelfdlhaa
/-
  What an operation does, for the regions of pairOf.
-/
set_option linter.unusedVariables false
set_option linter.unusedSimpArgs false
namespace Go.Proofs.Ytmlpndcelfdlhaa
open Go.RowKit

section
variable {o : Oper} {a : Act} {w : World} {K : Act → World → Prop} {Q : Exit → Act → World → Prop} {d : Nat}
theorem lk_idxSt {s r b l c i : Nat} (hd : o.dst = some d) (ho : o.op = .indexAddr 40 (.tmp s) (.tmp r)) (hs : a.tmps[s]? = some (.slice (some ⟨b, 0, none⟩) l c)) (hr : a.tmps[r]? = some (.int .i64 (i : Int))) (hl : i < l) (hK : ∀ w', Nu w w' → K ⟨a.tmps.setIfInBounds d (.pointer (some ⟨b, i * 2, none⟩)), a.defers⟩ w') : Oper.wp Try.prog o a w K Q := by
  have he : a.eval (.tmp s) = .slice (some ⟨b, 0, none⟩) l c := by simp [Act.eval, hs]
  have her : a.eval (.tmp r) = .int .i64 (i : Int) := by simp [Act.eval, hr]
  have hl2 : (i : Int) < (l : Int) := by omega
  unfold Oper.wp execOp
  simp only [ho, hd]
  go_simp
  exact hK w (Mv.refl _ _)
theorem lk_stMvs {s r b f : Nat} {u : Value} {ao : Option Addr} {n c : Nat} (hd : o.dst = none) (ho : o.op = .store 37 (.tmp s) (.tmp r)) (hs : a.tmps[s]? = some (.pointer (some ⟨b, f, none⟩))) (hr : a.tmps[r]? = some (.slice ao n c)) (h0 : w.cell? ⟨b, f, none⟩ = some u) (hf : w.frozen? ⟨b, f, none⟩ = false) (hK : K a (w.setCell ⟨b, f, none⟩ (.slice ao n c))) : Oper.wp Try.prog o a w K Q := by
  have hes : a.eval (.tmp s) = .pointer (some ⟨b, f, none⟩) := by simp [Act.eval, hs]
  have her : a.eval (.tmp r) = .slice ao n c := by simp [Act.eval, hr]
  unfold Oper.wp execOp
  simp only [ho, hd, hes, her]
  go_simp
  exact hK
theorem lk_stStrs {s r b f : Nat} {u : Value} {ao : Option Addr} {n c : Nat} (hd : o.dst = none) (ho : o.op = .store 43 (.tmp s) (.tmp r)) (hs : a.tmps[s]? = some (.pointer (some ⟨b, f, none⟩))) (hr : a.tmps[r]? = some (.slice ao n c)) (h0 : w.cell? ⟨b, f, none⟩ = some u) (hf : w.frozen? ⟨b, f, none⟩ = false) (hK : K a (w.setCell ⟨b, f, none⟩ (.slice ao n c))) : Oper.wp Try.prog o a w K Q := by
  have hes : a.eval (.tmp s) = .pointer (some ⟨b, f, none⟩) := by simp [Act.eval, hs]
  have her : a.eval (.tmp r) = .slice ao n c := by simp [Act.eval, hr]
  unfold Oper.wp execOp
  simp only [ho, hd, hes, her]
  go_simp
  exact hK
theorem lk_cloneM {s mc : Nat} {F : Nat → Prop} {mo : Option Addr} {l : List AMv} (hd : o.dst = some d) (ho : o.op = .call { callee := .value (.func 25), args := #[.tmp s], argTypes := #[37] }) (hs : a.tmps[s]? = some (.slice mo l.length mc)) (hx : MvsAt w F mo l) (hl : l.length ≤ 131072)
    (hK : ∀ w' ao' cap', Nu w w' → w'.ownsRow w.heap.size 36 3 (.slice ao' l.length cap') l.length (mvflat l) → K ⟨a.tmps.setIfInBounds d (.slice ao' l.length cap'), a.defers⟩ w') : Oper.wp Try.prog o a w K Q := by
  have he : a.eval (.tmp s) = .slice mo l.length mc := by simp [Act.eval, hs]
  unfold Oper.wp execOp
  simp only [ho, hd]
  go_simp
  refine (CloneM_any w F mo mc l hx hl).mono ?_
  rintro e w' ⟨hn, ao', cap', rfl, hown⟩
  exact hK w' ao' cap' hn hown
theorem lk_bytes {s n : Nat} (hn : n < 2097152) (hd : o.dst = some d) (ho : o.op = .call { callee := .value (.func 26), args := #[.tmp s], argTypes := #[3] }) (hs : a.tmps[s]? = some (.int .i64 (n : Int)))
    (hK : ∀ w', Nu w w' → K ⟨a.tmps.setIfInBounds d (.string (nst n)), a.defers⟩ w') : Oper.wp Try.prog o a w K Q := by
  have he : a.eval (.tmp s) = .int .i64 (n : Int) := by simp [Act.eval, hs]
  unfold Oper.wp execOp
  simp only [ho, hd]
  go_simp
  refine (numBytes_any w n hn).mono ?_
  rintro e w' ⟨rfl, hm⟩
  exact hK w' hm

end

end Go.Proofs.Ytmlpndcelfdlhaa
/-
  pairOf: a pair of a system and a copy of an automaton.
-/
set_option linter.unusedVariables false
set_option linter.unusedSimpArgs false
namespace Go.Proofs.Ytmlpndcelfdlhaa
open Go.RowKit

/-- The states as they lie. -/
theorem StsAt.xs {W : World} {F : Nat → Prop} {so : Nat} {A : List ASt} (h : StsAt W F so A) : ∃ xs : List SX, xs.map SX.st = A ∧ xs.length = A.length ∧ (∀ i (hi : i < xs.length) k u, (xs[i]).cells[k]? = some u → W.cell? ⟨so, i * 2 + k, none⟩ = some u) ∧ ∀ i (hi : i < xs.length), MvsAt W F xs[i].mo xs[i].st.mvs := by
  have hx : ∀ i, i < A.length → ∃ x : SX, ∀ hi : i < A.length, x.st = A[i] ∧ W.cell? ⟨so, i * 2, none⟩ = some (.bool x.st.acc) ∧ W.cell? ⟨so, i * 2 + 1, none⟩ = some (.slice x.mo x.st.mvs.length x.mc) ∧ MvsAt W F x.mo x.st.mvs := fun i hi => by
    obtain ⟨h0, mo, mc, h1, h2⟩ := h i hi
    exact ⟨⟨A[i], mo, mc⟩, fun _ => ⟨rfl, h0, h1, h2⟩⟩
  have : Inhabited SX := ⟨⟨⟨false, []⟩, none, 0⟩⟩
  obtain ⟨I, hI⟩ := Go.Deep.choose_lt hx
  refine ⟨(List.range A.length).map I, ?_, by simp, fun i hi k u hk => ?_, fun i hi => ?_⟩
  · apply List.ext_getElem (by simp)
    intro i h1 h2
    simp only [List.map_map, List.getElem_map, List.getElem_range, Function.comp]
    exact (hI i h2 h2).1
  · have hi' : i < A.length := by simpa using hi
    simp only [List.getElem_map, List.getElem_range] at hk
    obtain ⟨_, h0, h1, _⟩ := hI i hi' hi'
    have : k = 0 ∨ k = 1 := by have := (List.getElem?_eq_some_iff.1 hk).1; simp [SX.cells] at this; omega
    rcases this with rfl | rfl <;> simp [SX.cells] at hk <;> subst hk <;> assumption
  · have hi' : i < A.length := by simpa using hi
    simp only [List.getElem_map, List.getElem_range]
    exact (hI i hi' hi').2.2.2

def R5P (pb g n cap j : Nat) (mo : Option Addr) (ml mc H : Nat) (l : List AMv) : Nat → World → Value → Prop
  | 0, _, v => v = .pointer (some ⟨pb, 0, none⟩)
  | 1, _, v => v = .pointer (some ⟨pb, 0, none⟩)
  | 2, _, v => v = .pointer (some ⟨pb, 1, none⟩)
  | 3, _, v => v = .slice (some ⟨g, 0, none⟩) n cap
  | 4, _, v => v = .int .i64 (j : Int)
  | 5, _, v => v = .pointer (some ⟨pb, 0, none⟩)
  | 6, _, v => v = .pointer (some ⟨pb, 0, none⟩)
  | 7, _, v => v = .pointer (some ⟨pb, 1, none⟩)
  | 8, _, v => v = .slice (some ⟨g, 0, none⟩) n cap
  | 9, _, v => v = .int .i64 (j : Int)
  | 10, _, v => v = .pointer (some ⟨g, j * 2, none⟩)
  | 11, _, v => v = .pointer (some ⟨g, j * 2 + 1, none⟩)
  | 12, _, v => v = .slice mo ml mc
  | 13, w, v => ∃ ao ac, v = .slice ao l.length ac ∧ w.ownsRow H 36 3 (.slice ao l.length ac) l.length (mvflat l)
  | _ + 14, _, _ => False
theorem R5P.nu {pb g n cap j : Nat} {mo : Option Addr} {ml mc H : Nat} {l : List AMv} : ∀ i w w' v, Nu w w' → R5P pb g n cap j mo ml mc H l i w v → R5P pb g n cap j mo ml mc H l i w' v := by
  intro i w w' v hn h
  match i with
  | 0 | 1 | 2 | 3 | 4 | 5 | 6 | 7 | 8 | 9 | 10 | 11 | 12 => exact h
  | 13 => obtain ⟨ao, ac, h1, h2⟩ := h; exact ⟨ao, ac, h1, row_mv hn h2 (fun _ _ => id)⟩
  | _ + 14 => exact h

def R6P (pb : Nat) (na : Option Addr) (nc j B : Nat) : Nat → World → Value → Prop
  | 0, _, v => v = .pointer (some ⟨pb, 0, none⟩)
  | 1, _, v => v = .pointer (some ⟨pb, 0, none⟩)
  | 2, _, v => v = .pointer (some ⟨pb, 0, none⟩)
  | 3, _, v => v = .pointer (some ⟨pb, 2, none⟩)
  | 4, _, v => v = .slice na j nc
  | 5, _, v => v = .int .i64 (j : Int)
  | 6, _, v => v = .string (nst j)
  | 7, w, v => ∃ rb, v = .slice (some ⟨rb, 0, none⟩) 1 1 ∧ w.heap[rb]? = some (.cells #[.string (nst j)] 9 (0, 0)) ∧ B ≤ rb
  | _ + 8, _, _ => False
theorem R6P.nu {pb : Nat} {na : Option Addr} {nc j B : Nat} : ∀ i w w' v, Nu w w' → R6P pb na nc j B i w v → R6P pb na nc j B i w' v := by
  intro i w w' v hn h
  match i with
  | 0 | 1 | 2 | 3 | 4 | 5 | 6 => exact h
  | 7 => obtain ⟨rb, h1, h2, h3⟩ := h; exact ⟨rb, h1, hn.heap h2 id, h3⟩
  | _ + 8 => exact h

set_option maxHeartbeats 8000000 in
set_option maxRecDepth 40000 in
theorem pairOf_any (w : World) (F : Nat → Prop) (hF : ∀ b, F b → b < w.heap.size) (T : TypeId) (r0 : Value) (so sc : Nat) (A : List ASt) (h : StsAt w F so A) (hf : FineA A) :
    Calls Try.prog 15 #[.iface T r0, .agg #[.slice (some ⟨so, 0, none⟩) A.length sc]] w fun e w' => Nu w w' ∧ ∃ pb g cap xs na nc, e = .returned (.pointer (some ⟨pb, 0, none⟩)) ∧ PO w w' F pb (.iface T r0) A g cap xs na nc A.length A.length := by
  have HF := hid hF
  have HFI := hid hf
  have hl1 : (A.length : Int) ≤ 4096 := by have := hf.len; omega
  have hl0 : 1 ≤ A.length := hf.len.1
  obtain ⟨xs0, hx1, hx2, hx3, hx4⟩ := h.xs
  have HX := hid (And.intro hx1 (And.intro hx2 (And.intro hx3 hx4)))
  clear h hf hF hx1 hx2 hx3 hx4
  go_enter Try.func15, Try.ntmps15
  go_upto_region 1 with fail
  have HA1 : Hid ((w.alloc (.cells #[.slice (some ⟨so, 0, none⟩) A.length sc] 42)).heap[w.heap.size]? = some (.cells #[.slice (some ⟨so, 0, none⟩) A.length sc] 42 (0, 0))) := heap_alloc_new w _
  have HN1 : Hid (Nu w (w.alloc (.cells #[.slice (some ⟨so, 0, none⟩) A.length sc] 42))) := Mv.alloc _ _ _
  generalize w.alloc (.cells #[.slice (some ⟨so, 0, none⟩) A.length sc] 42) = w1 at *
  have b0 : w1.cell? ⟨w.heap.size, 0, none⟩ = some (.slice (some ⟨so, 0, none⟩) A.length sc) := cell_blk HA1.out 0
  have HCL := hid (Clone_stflat w1 ⟨so, 0, none⟩ sc xs0 (fun j u hj => by
    rw [Addr.add_lit]
    exact stflat_cell (fun i hi k u hk => cell_mv HN1.out (HX.out.2.2.1 i hi k u hk) id) j u hj) (by rw [HX.out.2.1]; omega))
  rw [HX.out.2.1] at HCL
  go_upto_region 2 with (go_at_call 24; refine Calls.mono HCL.out ?_; rintro e w2 ⟨hn2, ao2, cap, rfl, hown2⟩; have HN2 := hid (mv0 HN1.out hn2); have HO2 := hid (own_base hown2 HN1.out.size); clear hn2 hown2)
  obtain ⟨g, rfl⟩ : ∃ g, ao2 = some ⟨g, 0, none⟩ := by
    rcases HO2.out.2 with ⟨hv, hn⟩ | ⟨g, cap', cur, hv, _⟩
    · omega
    · simp only [Value.slice.injEq] at hv
      exact ⟨g, hv.1⟩
  have HPO : Hid (PO w (w2.alloc (.cells #[.iface T r0, .slice (some ⟨g, 0, none⟩) A.length cap, .slice none 0 0] 86)) F w2.heap.size (.iface T r0) A g cap xs0 none 0 0 0) := by
    have hn3 : Nu w2 (w2.alloc (.cells #[.iface T r0, .slice (some ⟨g, 0, none⟩) A.length cap, .slice none 0 0] 86)) := Mv.alloc _ _ _
    exact ⟨HX.out.1, HN2.out.size, heap_alloc_new w2 _, row_mv hn3 HO2.out (fun _ _ => id), World.ownsRow_nil _ _ _ _, fun i hi h => absurd h (by omega), fun i hi _ => HX.out.2.2.2 i hi, mv0 HN2.out hn3⟩
  generalize w2.alloc (.cells #[.iface T r0, .slice (some ⟨g, 0, none⟩) A.length cap, .slice none 0 0] 86) = w3 at *
  generalize w2.heap.size = pb at *
  clear HO2 HN2 HCL b0 HA1 HN1 HX
  have p1 : w3.cell? ⟨pb, 1, none⟩ = some (.slice (some ⟨g, 0, none⟩) A.length cap) := cell_blk HPO.out.blk 1
  go_wp2_with fail
  go_loopw [18] (fun iv wr => ∃ (j : Nat) (xs : List SX) (na : Option Addr) (nc : Nat), j ≤ A.length ∧ iv = .int .i64 (j : Int) ∧ Hid (PO w wr F pb (.iface T r0) A g cap xs na nc j j)) (fun iv _ => A.length - (intOf iv).toNat)
  case atStart => exact ⟨0, xs0, none, 0, Nat.zero_le _, rfl, HPO.out⟩
  case round =>
    obtain ⟨j, xs, na, nc, hj, rfl, HP⟩ := hrel
    rcases Nat.lt_or_ge j A.length with hlt | hge
    · have hlt' : (j : Int) < (A.length : Int) := by omega
      have HLT : Hid (j < A.length) := hlt
      have hjx : j < xs.length := by rw [HP.out.len]; exact hlt
      obtain ⟨x, hx⟩ : ∃ x, xs[j]'hjx = x := ⟨_, rfl⟩
      have HMV : Hid (MvsAt wr F x.mo x.st.mvs) := by
        have := (HP.out.old j hjx (Nat.le_refl _)).nu HF.out HP.out.nu
        rw [hx] at this
        exact this
      have HML : Hid (x.st.mvs.length ≤ 131072) := by
        have h1 : A[j]? = some x.st := by rw [← HP.out.eq, List.getElem?_map, List.getElem?_eq_getElem hjx, hx]; rfl
        have h2 := mvsTo_step hlt
        have h3 := mvsTo_le A (j + 1)
        have h4 := HFI.out.sum
        have h5 : A[j]'hlt = x.st := by rw [List.getElem?_eq_getElem hlt] at h1; exact Option.some.inj h1
        rw [h5] at h2
        show _ ≤ _
        omega
      have HCJ : Hid (wr.cell? ⟨g, j * 2 + 1, none⟩ = some (.slice x.mo x.st.mvs.length x.mc)) := HP.out.cell hjx (by omega) (by rw [hx]; rfl)
      have HSM : Hid (∀ {W2 : World} (_ : Nu wr W2) {ao : Option Addr} {ac : Nat} (_ : W2.ownsRow wr.heap.size 36 3 (.slice ao x.st.mvs.length ac) x.st.mvs.length (mvflat x.st.mvs)), PO w (W2.setCell ⟨g, j * 2 + 1, none⟩ (.slice ao x.st.mvs.length ac)) F pb (.iface T r0) A g cap (xs.set j ⟨x.st, ao, ac⟩) na nc j (j + 1)) := by
        intro W2 hn ao ac hown
        have := HP.out.setMv hjx hn HP.out.nu.size (ao := ao) (ac := ac) (by rw [hx]; exact hown)
        rw [hx] at this
        exact this
      generalize x.st.mvs = L at *
      have HJX := hid hjx
      clear hlt hjx hx p1
      go_upto_region 5 with fail
      rename_i KC hKC
      refine wp_tail2 14 (.pointer (some ⟨pb, 0, none⟩)) _ 21 (R5P pb g A.length cap j x.mo L.length x.mc wr.heap.size L) R5P.nu (by kernel_rfl) (by kernel_rfl) rfl rfl (by kernel_rfl) (by kernel_rfl) (by kernel_rfl) (fun _ _ _ h => h) (.inl ⟨by rfl, fun w => by rfl⟩) rfl ?hcl5 ?step5 ?tail5
      case hcl5 =>
          intro l' hcl h0 hy i hi
          have hy := hy _ rfl
          have h1 : l'.getD 1 false = true := by first | exact hy ⟨1, .phase⟩ (by simp) rfl | exact hy ⟨1, .data⟩ (by simp) rfl | exact hy ⟨1, .chain⟩ (by simp) rfl
          have h2 : l'.getD 2 false = true := by first | exact hy ⟨2, .phase⟩ (by simp) rfl | exact hy ⟨2, .data⟩ (by simp) rfl | exact hy ⟨2, .chain⟩ (by simp) rfl
          have h3 : l'.getD 3 false = true := by first | exact hy ⟨3, .phase⟩ (by simp) rfl | exact hy ⟨3, .data⟩ (by simp) rfl | exact hy ⟨3, .chain⟩ (by simp) rfl
          have h4 : l'.getD 4 false = true := by first | exact hy ⟨4, .phase⟩ (by simp) rfl | exact hy ⟨4, .data⟩ (by simp) rfl | exact hy ⟨4, .chain⟩ (by simp) rfl
          have h5 : l'.getD 5 false = true := by first | exact hy ⟨5, .phase⟩ (by simp) rfl | exact hy ⟨5, .data⟩ (by simp) rfl | exact hy ⟨5, .chain⟩ (by simp) rfl
          have h6 : l'.getD 6 false = true := by first | exact hy ⟨6, .phase⟩ (by simp) rfl | exact hy ⟨6, .data⟩ (by simp) rfl | exact hy ⟨6, .chain⟩ (by simp) rfl
          have h7 : l'.getD 7 false = true := by first | exact hy ⟨7, .phase⟩ (by simp) rfl | exact hy ⟨7, .data⟩ (by simp) rfl | exact hy ⟨7, .chain⟩ (by simp) rfl
          have h8 : l'.getD 8 false = true := by first | exact hy ⟨8, .phase⟩ (by simp) rfl | exact hy ⟨8, .data⟩ (by simp) rfl | exact hy ⟨8, .chain⟩ (by simp) rfl
          have h9 : l'.getD 9 false = true := by first | exact hy ⟨9, .phase⟩ (by simp) rfl | exact hy ⟨9, .data⟩ (by simp) rfl | exact hy ⟨9, .chain⟩ (by simp) rfl
          have h10 : l'.getD 10 false = true := by first | exact hy ⟨10, .phase⟩ (by simp) rfl | exact hy ⟨10, .data⟩ (by simp) rfl | exact hy ⟨10, .chain⟩ (by simp) rfl
          have h11 : l'.getD 11 false = true := by first | exact hy ⟨11, .phase⟩ (by simp) rfl | exact hy ⟨11, .data⟩ (by simp) rfl | exact hy ⟨11, .chain⟩ (by simp) rfl
          have h12 : l'.getD 12 false = true := by first | exact hy ⟨12, .phase⟩ (by simp) rfl | exact hy ⟨12, .data⟩ (by simp) rfl | exact hy ⟨12, .chain⟩ (by simp) rfl
          have h13 : l'.getD 13 false = true := by first | exact hy ⟨13, .phase⟩ (by simp) rfl | exact hy ⟨13, .data⟩ (by simp) rfl | exact hy ⟨13, .chain⟩ (by simp) rfl
          have : i = 0 ∨ i = 1 ∨ i = 2 ∨ i = 3 ∨ i = 4 ∨ i = 5 ∨ i = 6 ∨ i = 7 ∨ i = 8 ∨ i = 9 ∨ i = 10 ∨ i = 11 ∨ i = 12 ∨ i = 13 := by omega
          rcases this with rfl | rfl | rfl | rfl | rfl | rfl | rfl | rfl | rfl | rfl | rfl | rfl | rfl | rfl <;> assumption
      case step5 =>
        intro i o d a w' hi ho' hd' hn hfr had K hK
        have f5 := hfr 5 (by kernel_rfl)
        have f6 := hfr 6 (by kernel_rfl)
        have : i = 0 ∨ i = 1 ∨ i = 2 ∨ i = 3 ∨ i = 4 ∨ i = 5 ∨ i = 6 ∨ i = 7 ∨ i = 8 ∨ i = 9 ∨ i = 10 ∨ i = 11 ∨ i = 12 ∨ i = 13 := by omega
        have hblk := hn.heap HP.out.blk id
        rcases this with rfl | rfl | rfl | rfl | rfl | rfl | rfl | rfl | rfl | rfl | rfl | rfl | rfl | rfl
        · cases ho'; cases hd'; exact ite_yes (want_none rfl) (lk_move rfl rfl f5 (fun w' hm => hK w' _ hm rfl))
        · cases ho'; cases hd'; obtain ⟨⟨_, h0, rfl⟩, _⟩ := had; exact ite_yes (want_none rfl) (lk_nilPr rfl rfl h0 (fun w' hm => hK w' _ hm rfl))
        · cases ho'; cases hd'; obtain ⟨⟨_, h0, rfl⟩, _⟩ := had; exact ite_yes (want_none rfl) (lk_fieldPr1 rfl rfl h0 (fun w' hm => hK w' _ hm rfl))
        · cases ho'; cases hd'; obtain ⟨⟨_, h0, rfl⟩, _⟩ := had; exact ite_yes (want_none rfl) (lk_ldSts rfl rfl h0 (cell_blk hblk 1) (fun w' hm => hK w' _ hm rfl))
        · cases ho'; cases hd'; exact ite_yes (want_none rfl) (lk_move rfl rfl f6 (fun w' hm => hK w' _ hm rfl))
        · cases ho'; cases hd'; exact ite_yes (want_none rfl) (lk_move rfl rfl f5 (fun w' hm => hK w' _ hm rfl))
        · cases ho'; cases hd'; obtain ⟨⟨_, h0, rfl⟩, _⟩ := had; exact ite_yes (want_none rfl) (lk_nilPr rfl rfl h0 (fun w' hm => hK w' _ hm rfl))
        · cases ho'; cases hd'; obtain ⟨⟨_, h0, rfl⟩, _⟩ := had; exact ite_yes (want_none rfl) (lk_fieldPr1 rfl rfl h0 (fun w' hm => hK w' _ hm rfl))
        · cases ho'; cases hd'; obtain ⟨⟨_, h0, rfl⟩, _⟩ := had; exact ite_yes (want_none rfl) (lk_ldSts rfl rfl h0 (cell_blk hblk 1) (fun w' hm => hK w' _ hm rfl))
        · cases ho'; cases hd'; exact ite_yes (want_none rfl) (lk_move rfl rfl f6 (fun w' hm => hK w' _ hm rfl))
        · cases ho'; cases hd'; obtain ⟨⟨_, h0, rfl⟩, ⟨_, h1, rfl⟩, _⟩ := had; exact ite_yes (want_none rfl) (lk_idxSt rfl rfl h0 h1 HLT.out (fun w' hm => hK w' _ hm rfl))
        · cases ho'; cases hd'; obtain ⟨⟨_, h0, rfl⟩, _⟩ := had; exact ite_yes (want_none rfl) (lk_fieldSt1 rfl rfl h0 (fun w' hm => hK w' _ hm rfl))
        · cases ho'; cases hd'; obtain ⟨⟨_, h0, rfl⟩, _⟩ := had; exact ite_yes (want_none rfl) (lk_ldMvs rfl rfl h0 (cell_mv hn HCJ.out id) (fun w' hm => hK w' _ hm rfl))
        · cases ho'; cases hd'; obtain ⟨⟨_, h0, rfl⟩, _⟩ := had
          exact ite_yes (want_none rfl) (lk_cloneM rfl rfl h0 (HMV.out.nu (fun b hb => Nat.lt_of_lt_of_le (HF.out b hb) HP.out.nu.size) hn) HML.out (fun w2 ao2 c2 hm hown => hK w2 _ hm ⟨ao2, c2, rfl, own_base hown hn.size⟩))
      case tail5 =>
        intro a w6 hn6 hdf hsz hfr htv
        obtain ⟨_, t13, ao, ac, rfl, hao⟩ := htv 13 _ 34 (by decide) rfl rfl
        have htm := fill_eqT (y := 14) (vals := fun i => ([.pointer (some ⟨pb, 0, none⟩), .pointer (some ⟨pb, 0, none⟩), .pointer (some ⟨pb, 1, none⟩), .slice (some ⟨g, 0, none⟩) A.length cap, .int .i64 (j : Int), .pointer (some ⟨pb, 0, none⟩), .pointer (some ⟨pb, 0, none⟩), .pointer (some ⟨pb, 1, none⟩), .slice (some ⟨g, 0, none⟩) A.length cap, .int .i64 (j : Int), .pointer (some ⟨g, j * 2, none⟩), .pointer (some ⟨g, j * 2 + 1, none⟩), .slice x.mo L.length x.mc, .slice ao L.length ac] : List Value).getD i undef) (by kernel_rfl) hfr (fun i o d hi ho' hd' => by
          obtain ⟨v, h, hv⟩ := htv i o d hi ho' hd'
          have : i = 0 ∨ i = 1 ∨ i = 2 ∨ i = 3 ∨ i = 4 ∨ i = 5 ∨ i = 6 ∨ i = 7 ∨ i = 8 ∨ i = 9 ∨ i = 10 ∨ i = 11 ∨ i = 12 ∨ i = 13 := by omega
          rcases this with rfl | rfl | rfl | rfl | rfl | rfl | rfl | rfl | rfl | rfl | rfl | rfl | rfl | rfl <;> cases ho' <;> cases hd' <;> first | exact t13 | exact h.trans (congrArg some hv))
        rw [act_eq' htm hdf]
        have HN6 := hid hn6
        have HAO := hid hao
        clear htm hdf hsz hfr htv t13 hn6 hao
        simp only [fill, List.take, List.getD_cons_succ, List.getD_cons_zero, List.setIfInBounds_toArray, List.set_cons_succ, List.set_cons_zero]
        show tailW _ _ [14, 15, 16] _ _
        refine ⟨_, rfl, rfl, lk_idxSt rfl rfl rfl rfl HLT.out (fun u0 hu0 => ?_)⟩
        simp only [List.setIfInBounds_toArray, List.set_cons_succ, List.set_cons_zero]
        refine ⟨_, rfl, rfl, lk_fieldSt1 rfl rfl rfl (fun u1 hu1 => ?_)⟩
        simp only [List.setIfInBounds_toArray, List.set_cons_succ, List.set_cons_zero]
        have HNU : Hid (Nu wr u1) := mv0 (mv0 HN6.out hu0) hu1
        have HA1 := hid (row_mv (mv0 hu0 hu1) HAO.out (fun _ _ => id))
        obtain ⟨hgb, hgl, cg, hcg⟩ := row_blk (row_mv HNU.out HP.out.row (fun _ _ => id)) (k := g) rfl
        refine ⟨_, rfl, rfl, lk_stMvs rfl rfl rfl rfl (cell_mv HNU.out HCJ.out id) (free_blk hcg _) ?_⟩
        have HP2 : Hid (PO w (u1.setCell ⟨g, j * 2 + 1, none⟩ (.slice ao L.length ac)) F pb (.iface T r0) A g cap (xs.set j ⟨x.st, ao, ac⟩) na nc j (j + 1)) := HSM.out HNU.out HA1.out
        clear hu0 hu1 hcg hgb hgl HNU HA1 HN6 HAO HCJ HMV HML
        show Exit.then KC _ .normal _ _
        simp only [Exit.then]
        refine hKC _ _ ?_
        clear hKC
        generalize u1.setCell ⟨g, j * 2 + 1, none⟩ (.slice ao L.length ac) = w7 at *
        generalize xs.set j ⟨x.st, ao, ac⟩ = xs2 at *
        clear HP HSM HJX
        rename_i KC6 hKC6
        refine wp_tail2 8 (.pointer (some ⟨pb, 0, none⟩)) _ 37 (R6P pb na nc j w7.heap.size) R6P.nu (by kernel_rfl) (by kernel_rfl) rfl rfl (by kernel_rfl) (by kernel_rfl) (by kernel_rfl) (fun _ _ _ h => h) (.inl ⟨by rfl, fun w => by rfl⟩) rfl ?hcl6 ?step6 ?tail6
        case hcl6 =>
          intro l' hcl h0 hy i hi
          have hy := hy _ rfl
          have h4 := hy ⟨4, .data⟩ (by simp) rfl
          have h7 := hy ⟨7, .data⟩ (by simp) rfl
          have h6 := hcl 7 _ rfl h7 ⟨6, .data⟩ (by simp) rfl
          have h5 := hcl 6 _ rfl h6 ⟨5, .data⟩ (by simp) rfl
          have h3 := hcl 4 _ rfl h4 ⟨3, .data⟩ (by simp) rfl
          have h2 := hcl 3 _ rfl h3 ⟨2, .data⟩ (by simp) rfl
          have h1 := hcl 2 _ rfl h2 ⟨1, .data⟩ (by simp) rfl
          have : i = 0 ∨ i = 1 ∨ i = 2 ∨ i = 3 ∨ i = 4 ∨ i = 5 ∨ i = 6 ∨ i = 7 := by omega
          rcases this with rfl | rfl | rfl | rfl | rfl | rfl | rfl | rfl <;> assumption
        case step6 =>
          intro i o d a w' hi ho' hd' hn hfr had K hK
          have f5 := hfr 5 (by kernel_rfl)
          have f6 := hfr 6 (by kernel_rfl)
          have : i = 0 ∨ i = 1 ∨ i = 2 ∨ i = 3 ∨ i = 4 ∨ i = 5 ∨ i = 6 ∨ i = 7 := by omega
          have hblk := hn.heap HP2.out.blk id
          rcases this with rfl | rfl | rfl | rfl | rfl | rfl | rfl | rfl
          · cases ho'; cases hd'; exact ite_yes (want_none rfl) (lk_move rfl rfl f5 (fun w' hm => hK w' _ hm rfl))
          · cases ho'; cases hd'; exact ite_yes (want_none rfl) (lk_move rfl rfl f5 (fun w' hm => hK w' _ hm rfl))
          · cases ho'; cases hd'; obtain ⟨⟨_, h0, rfl⟩, _⟩ := had; exact ite_yes (want_none rfl) (lk_nilPr rfl rfl h0 (fun w' hm => hK w' _ hm rfl))
          · cases ho'; cases hd'; obtain ⟨⟨_, h0, rfl⟩, _⟩ := had; exact ite_yes (want_none rfl) (lk_fieldPr2 rfl rfl h0 (fun w' hm => hK w' _ hm rfl))
          · cases ho'; cases hd'; obtain ⟨⟨_, h0, rfl⟩, _⟩ := had; exact ite_yes (want_none rfl) (lk_ldStrs rfl rfl h0 (cell_blk hblk 2) (fun w' hm => hK w' _ hm rfl))
          · cases ho'; cases hd'; exact ite_yes (want_none rfl) (lk_move rfl rfl f6 (fun w' hm => hK w' _ hm rfl))
          · cases ho'; cases hd'; obtain ⟨⟨_, h0, rfl⟩, _⟩ := had; exact ite_yes (want_none rfl) (lk_bytes (by have := HLT.out; omega) rfl rfl h0 (fun w' hm => hK w' _ hm rfl))
          · cases ho'; cases hd'; obtain ⟨⟨_, h0, rfl⟩, _⟩ := had; exact ite_yes (want_none rfl) (lk_rowStr rfl rfl h0 (hK _ _ (Mv.alloc _ _ _) ⟨_, rfl, heap_alloc_new _ _, hn.size⟩))
        case tail6 =>
          intro a w8 hn8 hdf hsz hfr htv
          obtain ⟨_, t7, rb, rfl, hbr, _⟩ := htv 7 _ 44 (by decide) rfl rfl
          have htm := fill_eqT (y := 8) (vals := fun i => ([.pointer (some ⟨pb, 0, none⟩), .pointer (some ⟨pb, 0, none⟩), .pointer (some ⟨pb, 0, none⟩), .pointer (some ⟨pb, 2, none⟩), .slice na j nc, .int .i64 (j : Int), .string (nst j), .slice (some ⟨rb, 0, none⟩) 1 1] : List Value).getD i undef) (by kernel_rfl) hfr (fun i o d hi ho' hd' => by
            obtain ⟨v, h, hv⟩ := htv i o d hi ho' hd'
            have : i = 0 ∨ i = 1 ∨ i = 2 ∨ i = 3 ∨ i = 4 ∨ i = 5 ∨ i = 6 ∨ i = 7 := by omega
            rcases this with rfl | rfl | rfl | rfl | rfl | rfl | rfl | rfl <;> cases ho' <;> cases hd' <;> first | exact t7 | exact h.trans (congrArg some hv))
          rw [act_eq' htm hdf]
          have HN8 := hid hn8
          have HBR := hid hbr
          clear htm hdf hsz hfr htv t7 hn8 hbr
          simp only [fill, List.take, List.getD_cons_succ, List.getD_cons_zero, List.setIfInBounds_toArray, List.set_cons_succ, List.set_cons_zero]
          show tailW _ _ [8, 9, 10, 11] _ _
          have HP8 := hid (HP2.out.keep HN8.out)
          obtain ⟨i1, hi1, hz1, hy1, hb1⟩ := p_info_parts p_infoStr
          refine ⟨_, rfl, rfl, wp_append_lies _ (.tmp 41) (.tmp 44) 43 rfl w.heap.size 9 i1 (.string ⟨#[]⟩) 1 16 Try.underlying43 hi1 hz1 hy1 hb1 rfl (by decide) (.slice na j nc) j _ rfl HP8.out.num ⟨rb, 0, none⟩ 1 1 [.string (nst j)] rfl rfl (World.news_of_block HBR.out) (by intro u hu; simp at hu; subst hu; rfl) (by decide) (by have := HLT.out; unfold maxLen; omega) (by have := HLT.out; omega) HP8.out.nu.size _ rfl ?_⟩
          intro g5 cap5 w9 hown hgrow hat hg5
          show tailW _ _ _ (Act.put _ (some 45) _) _
          simp only [Act.put, List.setIfInBounds_toArray, List.set_cons_succ, List.set_cons_zero]
          refine ⟨_, rfl, rfl, lk_nilPr rfl rfl rfl (fun u0 hu0 => ?_)⟩
          simp only [List.setIfInBounds_toArray, List.set_cons_succ, List.set_cons_zero]
          refine ⟨_, rfl, rfl, lk_fieldPr2 rfl rfl rfl (fun u1 hu1 => ?_)⟩
          simp only [List.setIfInBounds_toArray, List.set_cons_succ, List.set_cons_zero]
          have hnu := mv0 hu0 hu1
          have hgrow' : w8.grownBy u1 (Value.slice na j nc).ownBlock := ⟨hnu.os.trans hgrow.os, hnu.tape.trans hgrow.tape, hnu.output.trans hgrow.output, Nat.le_trans hgrow.size hnu.size, fun k hk hn => (hnu.block k (Nat.lt_of_lt_of_le hk hgrow.size) id).trans (hgrow.block k hk hn)⟩
          have hown' : u1.ownsRow w.heap.size 9 1 (.slice (some ⟨g5, 0, none⟩) (j + 1) cap5) (j + 1) ((numsTo (j + 1)).map Value.string) := by
            rw [numsTo_succ, List.map_append]
            exact row_mv hnu hown (fun _ _ => id)
          have hpb : u1.heap[pb]? = some (.cells #[.iface T r0, .slice (some ⟨g, 0, none⟩) A.length cap, .slice na j nc] 86 (0, 0)) := hnu.heap ((Mv.grown hgrow).heap HP8.out.blk (fun e => by
            obtain ⟨_, _, cs, hc⟩ := row_blk HP8.out.num e
            exact blk_ne HP8.out.blk hc (by decide) rfl)) id
          refine ⟨_, rfl, rfl, lk_stStrs rfl rfl rfl rfl (cell_blk hpb 2) (free_blk hpb 2) ?_⟩
          have HP9 := hid (HP8.out.setNum hgrow' hown')
          clear hown hown' hgrow hgrow' hat hg5 hnu hu0 hu1 hpb HP8 HBR HN8 HP2 hi1 hz1 hy1 hb1
          show Exit.inBlock 1 (Exit.then KC6 _) .normal _ _
          simp only [Exit.inBlock, Exit.then]
          refine hKC6 _ _ ?_
          clear hKC6
          generalize u1.setCell ⟨pb, 2, none⟩ (.slice (some ⟨g5, 0, none⟩) (j + 1) cap5) = w10 at *
          go_wp2
          go_roundw
          case rel => exact ⟨j + 1, xs2, some ⟨g5, 0, none⟩, cap5, HLT.out, by go_num, HP9.out⟩
          case measure => have := HLT.out; simp [intOf]; omega
    · obtain rfl : j = A.length := by omega
      go_wp2
      go_ret
      exact ⟨HP.out.nu, pb, g, cap, xs, na, nc, rfl, HP.out⟩

end Go.Proofs.Ytmlpndcelfdlhaa
/-
  product.Of over a graph.
-/
set_option linter.unusedVariables false
set_option linter.unusedSimpArgs false
namespace Go.Proofs.Ytmlpndcelfdlhaa
open Go.RowKit

/-- What is new. -/
def newF (w W : World) (b : Nat) : Prop := w.heap.size ≤ b ∧ b < W.heap.size

theorem mvs_of_row {w W : World} {ao : Option Addr} {ac : Nat} {l : List AMv} (h : W.ownsRow w.heap.size 36 3 (.slice ao l.length ac) l.length (mvflat l)) : MvsAt W (newF w W) ao l := by
  rcases h.2 with ⟨hv, hn⟩ | ⟨g, cap', cur, hv, hg, hblk, _⟩
  · exact .inl hn
  · simp only [Value.slice.injEq] at hv
    obtain ⟨rfl, _, rfl⟩ := hv
    refine .inr ⟨g, rfl, ⟨hg, lt_of_block hblk⟩, fun j hj => ?_⟩
    have hc : ∀ k u, k < 3 → (l[j]).cells[k]? = some u → W.cell? ⟨g, j * 3 + k, none⟩ = some u := fun k u hk hu => by
      have := h.cells (g := g) rfl (j * 3 + k) u (by rw [mvflat_get l j hj k hk]; exact hu)
      rwa [Addr.add_lit, Nat.zero_add] at this
    exact ⟨hc 0 _ (by omega) rfl, hc 1 _ (by omega) rfl, hc 2 _ (by omega) rfl⟩

theorem PO.pair {w W : World} {F : Nat → Prop} {pb : Nat} {sv : Value} {A : List ASt} {g cap : Nat} {xs : List SX} {na : Option Addr} {nc : Nat} (h : PO w W F pb sv A g cap xs na nc A.length A.length) (hf : FineA A) : ∃ no, na = some ⟨no, 0, none⟩ ∧ PairIs W (newF w W) pb sv A g cap no nc := by
  obtain ⟨no, rfl, hno, hnl⟩ : ∃ no, na = some ⟨no, 0, none⟩ ∧ w.heap.size ≤ no ∧ no < W.heap.size := by
    rcases h.num.2 with ⟨hv, hn⟩ | ⟨no, cap', cur, hv, hg, hblk, _⟩
    · have := hf.len.1; omega
    · simp only [Value.slice.injEq] at hv
      exact ⟨no, hv.1, hg, lt_of_block hblk⟩
  have hgb := row_blk h.row (k := g) rfl
  refine ⟨no, rfl, ⟨⟨h.ge, lt_of_block h.blk⟩, ⟨hgb.1, hgb.2.1⟩, ⟨hno, hnl⟩, hf.len, h.blk, fun i hi => ?_, fun i hi => ?_, fun a ha => ⟨?_, fun m hm => (hf.mvs a ha m hm).2⟩⟩⟩
  · have := h.num.cells (g := no) rfl i (.string (nst i)) (by rw [List.getElem?_map, numsTo, List.getElem?_map, List.getElem?_range hi]; rfl)
    rwa [Addr.add_lit, Nat.zero_add] at this
  · have hx : i < xs.length := by rw [h.len]; exact hi
    have he : A[i] = (xs[i]'hx).st := by
      have h1 : A[i]? = some (xs[i]'hx).st := by rw [← h.eq, List.getElem?_map, List.getElem?_eq_getElem hx]; rfl
      rw [List.getElem?_eq_getElem hi] at h1
      exact Option.some.inj h1
    rw [he]
    refine ⟨h.cell hx (k := 0) (by omega) rfl, (xs[i]'hx).mo, (xs[i]'hx).mc, h.cell hx (k := 1) (by omega) rfl, mvs_of_row (h.new i hx hi)⟩
  · obtain ⟨i, hi, rfl⟩ := List.mem_iff_getElem.1 ha
    have h1 := mvsTo_step hi
    have h2 := mvsTo_le A (i + 1)
    have h3 := hf.sum
    omega

set_option maxHeartbeats 4000000 in
set_option maxRecDepth 40000 in
theorem productOf_any (w : World) (F : Nat → Prop) (hF : ∀ b, F b → b < w.heap.size) (rv : Value) (so sc : Nat) (A : List ASt) (h : StsAt w F so A) (hf : FineA A) :
    Calls Try.prog 6 #[.iface 54 rv, .agg #[.slice (some ⟨so, 0, none⟩) A.length sc]] w fun e w' => Nu w w' ∧ ∃ F' pb g cap no nc, e = .returned (.tuple #[.iface 60 (.pointer (some ⟨pb, 0, none⟩)), .int .i64 0]) ∧ PairIs w' F' pb (.iface 54 rv) A g cap no nc ∧ ∀ b, F' b → w.heap.size ≤ b ∧ b < w'.heap.size := by
  have HFI := hid hf
  have HST : Hid (∀ W, Nu w W → StsAt W F so A) := fun W hW i hi => ⟨cell_mv hW (h i hi).1 id, by
    obtain ⟨mo, mc, h1, h2⟩ := (h i hi).2
    exact ⟨mo, mc, cell_mv hW h1 id, h2.nu hF hW⟩⟩
  have HF : Hid (∀ W, Nu w W → ∀ b, F b → b < W.heap.size) := fun W hW b hb => Nat.lt_of_lt_of_le (hF b hb) hW.size
  clear h hf hF
  go_enter Try.func6, Try.ntmps6
  go_upto_region 1 with fail
  have HA1 : Hid ((w.alloc (.cells #[.slice (some ⟨so, 0, none⟩) A.length sc] 42)).heap[w.heap.size]? = some (.cells #[.slice (some ⟨so, 0, none⟩) A.length sc] 42 (0, 0))) := heap_alloc_new w _
  have HN1 : Hid (Nu w (w.alloc (.cells #[.slice (some ⟨so, 0, none⟩) A.length sc] 42))) := Mv.alloc _ _ _
  generalize w.alloc (.cells #[.slice (some ⟨so, 0, none⟩) A.length sc] 42) = w1 at *
  have b0 : w1.cell? ⟨w.heap.size, 0, none⟩ = some (.slice (some ⟨so, 0, none⟩) A.length sc) := cell_blk HA1.out 0
  go_upto_region 5 with (go_at_call 13; refine (buchiCheck_any w1 F (HF.out _ HN1.out) so sc A (HST.out _ HN1.out) HFI.out).mono ?_; rintro e w2 ⟨rfl, hn2⟩; have HN2 := hid hn2; clear hn2)
  replace b0 := cell_mv HN2.out b0 id
  have HW2 : Hid (Nu w w2) := mv0 HN1.out HN2.out
  go_wp2_with (first | (go_at_call 15; refine (pairOf_any w2 F (HF.out _ HW2.out) 54 rv so sc A (HST.out _ HW2.out) HFI.out).mono ?_; rintro e w3 ⟨hn3, pb, g, cap, xs, na, nc, rfl, hpo⟩; obtain ⟨no, rfl, hpi⟩ := hpo.pair HFI.out; have HN3 := hid hn3; have HPI := hid hpi; clear hn3 hpo hpi) | (go_at_call 14; refine (tellingAll_any _ _ _ rv A _ _ _ _ HPI.out).mono ?_; rintro e w4 ⟨rfl, hn4⟩; have HN4 := hid hn4; clear hn4))
  go_ret2
  refine ⟨mv0 HW2.out (mv0 HN3.out HN4.out), _, pb, g, cap, no, nc, rfl, HPI.out.nu (fun b hb => hb.2) HN4.out, fun b hb => ⟨Nat.le_trans HW2.out.size hb.1, Nat.lt_of_lt_of_le hb.2 HN4.out.size⟩⟩

end Go.Proofs.Ytmlpndcelfdlhaa
/-
  The automaton of: proposition 0 again and again; and that of every word.
-/
set_option linter.unusedVariables false
set_option linter.unusedSimpArgs false
namespace Go.Proofs.Ytmlpndcelfdlhaa
open Go.RowKit

def often2 : List ASt := [⟨true, [⟨1, 0, 0⟩, ⟨0, 1, 1⟩]⟩, ⟨false, [⟨1, 0, 0⟩, ⟨0, 1, 1⟩]⟩]

set_option maxHeartbeats 4000000 in
set_option maxRecDepth 40000 in
theorem often_any (w : World) : Calls Try.prog 11 #[] w fun e w' => Nu w w' ∧ ∃ so, e = .returned (.agg #[.slice (some ⟨so, 0, none⟩) 2 2]) ∧ StsAt w' (newF w w') so often2 := by
  go_enter Try.func11, Try.ntmps11
  go_wp2_with fail
  have n0 : Nu w (w.alloc (.cells #[.slice (some ⟨w.heap.size + 1 + 1 + 1 + 1 + 1, 0, none⟩) 2 2] 42)) := Mv.alloc _ _ _
  have b0 := heap_alloc_new w (.cells #[.slice (some ⟨w.heap.size + 1 + 1 + 1 + 1 + 1, 0, none⟩) 2 2] 42)
  have z0 : (w.alloc (.cells #[.slice (some ⟨w.heap.size + 1 + 1 + 1 + 1 + 1, 0, none⟩) 2 2] 42)).heap.size = w.heap.size + 1 := World.size_alloc _ _
  generalize w.alloc (.cells #[.slice (some ⟨w.heap.size + 1 + 1 + 1 + 1 + 1, 0, none⟩) 2 2] 42) = w1 at *
  have n1 : Nu w1 (w1.alloc (.cells #[.int .u64 1, .int .u64 0, .int .i64 0] 36)) := Mv.alloc _ _ _
  have b1 := heap_alloc_new w1 (.cells #[.int .u64 1, .int .u64 0, .int .i64 0] 36)
  have z1 : (w1.alloc (.cells #[.int .u64 1, .int .u64 0, .int .i64 0] 36)).heap.size = w1.heap.size + 1 := World.size_alloc _ _
  generalize w1.alloc (.cells #[.int .u64 1, .int .u64 0, .int .i64 0] 36) = w2 at *
  have n2 : Nu w2 (w2.alloc (.cells #[.int .u64 0, .int .u64 1, .int .i64 1] 36)) := Mv.alloc _ _ _
  have b2 := heap_alloc_new w2 (.cells #[.int .u64 0, .int .u64 1, .int .i64 1] 36)
  have z2 : (w2.alloc (.cells #[.int .u64 0, .int .u64 1, .int .i64 1] 36)).heap.size = w2.heap.size + 1 := World.size_alloc _ _
  generalize w2.alloc (.cells #[.int .u64 0, .int .u64 1, .int .i64 1] 36) = w3 at *
  have n3 : Nu w3 (w3.alloc (.cells #[.int .u64 1, .int .u64 0, .int .i64 0, .int .u64 0, .int .u64 1, .int .i64 1] 36)) := Mv.alloc _ _ _
  have b3 := heap_alloc_new w3 (.cells #[.int .u64 1, .int .u64 0, .int .i64 0, .int .u64 0, .int .u64 1, .int .i64 1] 36)
  have z3 : (w3.alloc (.cells #[.int .u64 1, .int .u64 0, .int .i64 0, .int .u64 0, .int .u64 1, .int .i64 1] 36)).heap.size = w3.heap.size + 1 := World.size_alloc _ _
  generalize w3.alloc (.cells #[.int .u64 1, .int .u64 0, .int .i64 0, .int .u64 0, .int .u64 1, .int .i64 1] 36) = w4 at *
  have n4 : Nu w4 (w4.alloc (.cells #[.int .u64 1, .int .u64 0, .int .i64 0, .int .u64 0, .int .u64 1, .int .i64 1] 36)) := Mv.alloc _ _ _
  have b4 := heap_alloc_new w4 (.cells #[.int .u64 1, .int .u64 0, .int .i64 0, .int .u64 0, .int .u64 1, .int .i64 1] 36)
  have z4 : (w4.alloc (.cells #[.int .u64 1, .int .u64 0, .int .i64 0, .int .u64 0, .int .u64 1, .int .i64 1] 36)).heap.size = w4.heap.size + 1 := World.size_alloc _ _
  generalize w4.alloc (.cells #[.int .u64 1, .int .u64 0, .int .i64 0, .int .u64 0, .int .u64 1, .int .i64 1] 36) = w5 at *
  have n5 : Nu w5 (w5.alloc (.cells #[.bool true, .slice (some ⟨w.heap.size + 1 + 1 + 1, 0, none⟩) 2 2, .bool false, .slice (some ⟨w.heap.size + 1 + 1 + 1 + 1, 0, none⟩) 2 2] 39)) := Mv.alloc _ _ _
  have b5 := heap_alloc_new w5 (.cells #[.bool true, .slice (some ⟨w.heap.size + 1 + 1 + 1, 0, none⟩) 2 2, .bool false, .slice (some ⟨w.heap.size + 1 + 1 + 1 + 1, 0, none⟩) 2 2] 39)
  have z5 : (w5.alloc (.cells #[.bool true, .slice (some ⟨w.heap.size + 1 + 1 + 1, 0, none⟩) 2 2, .bool false, .slice (some ⟨w.heap.size + 1 + 1 + 1 + 1, 0, none⟩) 2 2] 39)).heap.size = w5.heap.size + 1 := World.size_alloc _ _
  generalize w5.alloc (.cells #[.bool true, .slice (some ⟨w.heap.size + 1 + 1 + 1, 0, none⟩) 2 2, .bool false, .slice (some ⟨w.heap.size + 1 + 1 + 1 + 1, 0, none⟩) 2 2] 39) = w6 at *
  have s3 : w3.heap.size = w.heap.size + 1 + 1 + 1 := by rw [z2, z1, z0]
  have s4 : w4.heap.size = w.heap.size + 1 + 1 + 1 + 1 := by rw [z3, s3]
  have s5 : w5.heap.size = w.heap.size + 1 + 1 + 1 + 1 + 1 := by rw [z4, s4]
  rw [s3] at b3
  rw [s4] at b4
  rw [s5] at b5
  have B0 := (mv0 n1 (mv0 n2 (mv0 n3 (mv0 n4 n5)))).heap b0 id
  have B3 := (mv0 n4 n5).heap b3 id
  have B4 := n5.heap b4 id
  have hlt := lt_of_block b5
  refine bodyPost_ret (results_cell_row rfl _ _ w.heap.size 42 _ (0, 0) _ rfl B0 Try.underlying42 rfl (by kernel_rfl)) rfl ⟨mv0 n0 (mv0 n1 (mv0 n2 (mv0 n3 (mv0 n4 n5)))), _, rfl, fun i hi => ?_⟩
  have hm : ∀ g, w6.heap[g]? = some (.cells #[.int .u64 1, .int .u64 0, .int .i64 0, .int .u64 0, .int .u64 1, .int .i64 1] 36 (0, 0)) → w.heap.size ≤ g → MvsAt w6 (newF w w6) (some ⟨g, 0, none⟩) [⟨1, 0, 0⟩, ⟨0, 1, 1⟩] := fun g hg hge => by
    refine .inr ⟨g, rfl, ⟨hge, lt_of_block hg⟩, fun j hj => ?_⟩
    have : j = 0 ∨ j = 1 := by simp at hj; omega
    rcases this with rfl | rfl
    · exact ⟨cell_blk hg 0, cell_blk hg 1, cell_blk hg 2⟩
    · exact ⟨cell_blk hg 3, cell_blk hg 4, cell_blk hg 5⟩
  have : i = 0 ∨ i = 1 := by simp [often2] at hi; omega
  rcases this with rfl | rfl
  · exact ⟨cell_blk b5 0, _, _, cell_blk b5 1, hm _ B3 (by omega)⟩
  · exact ⟨cell_blk b5 2, _, _, cell_blk b5 3, hm _ B4 (by omega)⟩

theorem fine_often : FineA often2 := by
  refine ⟨by decide, by decide, fun a ha m hm => ?_⟩
  unfold often2 at ha
  simp only [List.mem_cons, List.not_mem_nil, or_false] at ha
  rcases ha with rfl | rfl <;> (simp only [List.mem_cons, List.not_mem_nil, or_false] at hm; rcases hm with rfl | rfl <;> (unfold fineMv; decide))
theorem fine_one : FineA one1 := by
  refine ⟨by decide, by decide, fun a ha m hm => ?_⟩
  unfold one1 at ha
  simp only [List.mem_cons, List.not_mem_nil, or_false] at ha
  subst ha
  simp only [List.mem_cons, List.not_mem_nil, or_false] at hm
  subst hm
  unfold fineMv
  decide

end Go.Proofs.Ytmlpndcelfdlhaa
/-
  beside: a move of the system, once for each state that the automaton goes to.
-/
set_option linter.unusedVariables false
set_option linter.unusedSimpArgs false
namespace Go.Proofs.Ytmlpndcelfdlhaa
open Go.RowKit

/-- What is asked of one who takes the moves ms, from B on. -/
structure Taker (n l B : Nat) (ms : List Mov) (J : List X → (Nat → Prop) → World → Prop) (Jx : List X → World → Prop) : Prop where
  nu : ∀ pre O A A', J pre O A → Nu A A' → J pre O A'
  lt : ∀ pre O A, J pre O A → ∀ b, O b → b < A.heap.size
  yld : ∀ pre x W1 O, J pre O W1 → B ≤ W1.heap.size → ms[pre.length]? = some x.m → XOwn W1 B x → (∀ b, x.blk b → ¬ O b) → YieldAt Fence.wide (n - 1) Try.prog l x.enc W1 fun e W' =>
      (e = .returned (.bool true) ∧ ∃ O', J (pre ++ [x]) O' W' ∧ (∀ b, O' b → O b ∨ x.blk b ∨ W1.heap.size ≤ b) ∧ Mv (fun b => O b ∨ x.blk b) W1 W') ∨ (e = .returned (.bool false) ∧ Jx (pre ++ [x]) W' ∧ Mv (fun b => O b ∨ x.blk b ∨ b = l) W1 W')

/-- How far it has come. -/
structure Bs (W w1 A : World) (S : Nat → Prop) (J : List X → (Nat → Prop) → World → Prop) (pre0 : List X) (O0 : Nat → Prop) (bes : List Mov) (xs : List X) (O : Nat → Prop) : Prop where
  eq : xs.map X.m = bes.take xs.length
  j : J (pre0 ++ xs) O A
  o : ∀ b, O b → O0 b ∨ W.heap.size ≤ b
  s : ∀ b, S b → ¬ O b
  mv : Mv O0 W A
  kp : KeepF S w1 A

/-- What must stay for beside. -/
def besS (W : World) (x : X) (k : Nat) (ta : Option Addr) (b : Nat) : Prop := b = W.heap.size ∨ (b < W.heap.size ∧ ∃ a, ((0 < k ∧ ta = some a) ∨ (0 < x.m.reads.length ∧ x.ra = some a) ∨ (0 < x.m.writes.length ∧ x.wa = some a)) ∧ a.block = b)

theorem ints_keep {W A : World} {B : Nat} {ao : Option Addr} {xs : List Int} (h : IntsAt W B ao xs) (hk : ∀ a, 0 < xs.length → ao = some a → a.block < B → A.heap[a.block]? = W.heap[a.block]?) (hB : B ≤ A.heap.size) : IntsAt A A.heap.size ao xs := by
  refine ⟨h.lim, ?_⟩
  rcases Nat.eq_zero_or_pos xs.length with h0 | hp
  · exact .inl h0
  · refine h.row.imp id fun ⟨b, off, ha, hb, hit⟩ => ⟨b, off, ha, Nat.lt_of_lt_of_le hb hB, fun i hi => ?_⟩
    have := hk _ hp ha hb
    rw [← hit i hi]
    unfold World.cell?
    rw [this]

theorem bes_get {tos : List ByteArray} {m : Mov} (hb : m.bad = 0) {i : Nat} (hi : i < tos.length) : (besideM tos m)[i]? = some (numMv tos[i] m) := by
  unfold besideM numMv
  rw [if_pos hb, if_pos hb, List.getElem?_map, List.getElem?_eq_getElem hi]
  rfl
theorem bes_len {tos : List ByteArray} {m : Mov} (hb : m.bad = 0) : (besideM tos m).length = tos.length := by
  unfold besideM
  rw [if_pos hb, List.length_map]

def BsOut (l : Nat) (W : World) (J : List X → (Nat → Prop) → World → Prop) (Jx : List X → World → Prop) (pre0 : List X) (O0 : Nat → Prop) (bes : List Mov) (e : Ending) (W' : World) : Prop :=
  (e = .returned (.bool true) ∧ ∃ xs O', xs.map X.m = bes ∧ J (pre0 ++ xs) O' W' ∧ (∀ b, O' b → O0 b ∨ W.heap.size ≤ b) ∧ Mv O0 W W') ∨ (e = .returned (.bool false) ∧ (∃ pre, Jx pre W') ∧ Mv (fun b => O0 b ∨ b = l) W W')

set_option maxHeartbeats 8000000 in
set_option maxRecDepth 40000 in
theorem beside_any (n l B : Nat) (ms : List Mov) (J : List X → (Nat → Prop) → World → Prop) (Jx : List X → World → Prop) (hT : Taker n l B ms J Jx) (W : World) (hB : B ≤ W.heap.size) (x : X) (tos : List ByteArray) (ta : Option Addr) (tc : Nat) (pre0 : List X) (O0 : Nat → Prop) (hj : J pre0 O0 W)
    (hms : ∀ i m, (besideM tos x.m)[i]? = some m → ms[pre0.length + i]? = some m) (ht : StrsAt W W.heap.size ta tos) (hts : ∀ t ∈ tos, SmallB t) (hxs : SmallB x.m.to) (hr : IntsAt W W.heap.size x.ra x.m.reads) (hw : IntsAt W W.heap.size x.wa x.m.writes)
    (hta : 0 < tos.length → ∀ a, ta = some a → ¬ O0 a.block) (hra : 0 < x.m.reads.length → ∀ a, x.ra = some a → ¬ O0 a.block) (hwa : 0 < x.m.writes.length → ∀ a, x.wa = some a → ¬ O0 a.block) :
    Calls Try.prog 71 #[x.val, .slice ta tos.length tc, .func (.yield l) #[] #[]] W (BsOut l W J Jx pre0 O0 (besideM tos x.m)) := by
  have HT := hid hT
  have HJ := hid hj
  have HMS := hid hms
  have HTS := hid (And.intro ht hts)
  have HXR := hid (And.intro hxs (And.intro hr hw))
  have HNO := hid (And.intro hta (And.intro hra hwa))
  clear hT hj hms ht hts hxs hr hw hta hra hwa
  unfold X.val
  go_enter Try.func71, Try.ntmps71
  go_upto_region 1 with fail
  have HA1 : Hid ((W.alloc (.cells (mvCells x.m x.m.to (.slice x.ra x.m.reads.length x.rc) (.slice x.wa x.m.writes.length x.wc)) 69)).heap[W.heap.size]? = some (.cells (mvCells x.m x.m.to (.slice x.ra x.m.reads.length x.rc) (.slice x.wa x.m.writes.length x.wc)) 69 (0, 0))) := heap_alloc_new W _
  have HN1 : Hid (Nu W (W.alloc (.cells (mvCells x.m x.m.to (.slice x.ra x.m.reads.length x.rc) (.slice x.wa x.m.writes.length x.wc)) 69))) := Mv.alloc _ _ _
  obtain ⟨w1, hw1⟩ : ∃ w1, (W.alloc (.cells (mvCells x.m x.m.to (.slice x.ra x.m.reads.length x.rc) (.slice x.wa x.m.writes.length x.wc)) 69)) = w1 := ⟨_, rfl⟩
  rw [hw1] at HA1 HN1
  unfold mvCells at hw1
  rw [hw1]
  clear hw1
  have c5 : w1.cell? ⟨W.heap.size, 5, none⟩ = some (.int .i64 x.m.bad) := (cells9 HA1.out).2.2.2.2.2.1
  by_cases hbad : x.m.bad = 0
  · have HBD := hid hbad
    rw [hbad] at c5
    have HS1 : Hid (∀ b, besS W x tos.length ta b → b < w1.heap.size ∧ ¬ O0 b) := by
      intro b hb
      rcases hb with rfl | ⟨hb, a, ha, rfl⟩
      · exact ⟨lt_of_block HA1.out, fun ho => by have := HT.out.lt _ _ _ HJ.out _ ho; omega⟩
      · refine ⟨Nat.lt_of_lt_of_le hb HN1.out.size, ?_⟩
        rcases ha with ⟨h0, h⟩ | ⟨h0, h⟩ | ⟨h0, h⟩
        · exact HNO.out.1 h0 a h
        · exact HNO.out.2.1 h0 a h
        · exact HNO.out.2.2 h0 a h
    have hl1 : (tos.length : Int) ≤ 9223372036854775807 := HTS.out.1.lim
    clear hbad
    go_wp2_with fail
    go_loopw [18] (fun iv wr => ∃ (xs : List X) (O : Nat → Prop), xs.length ≤ tos.length ∧ iv = .int .i64 (xs.length : Int) ∧ Hid (Bs W w1 wr (besS W x tos.length ta) J pre0 O0 (besideM tos x.m) xs O)) (fun iv _ => tos.length - (intOf iv).toNat)
    case atStart => exact ⟨[], O0, Nat.zero_le _, rfl, ⟨by simp, by rw [List.append_nil]; exact HT.out.nu _ _ _ _ HJ.out HN1.out, fun b h => .inl h, fun b h => (HS1.out b h).2, HN1.out.mono (fun _ h => h.elim), KeepF.refl _ _⟩⟩
    case round =>
      obtain ⟨xs, O, hxl, rfl, HBS⟩ := hrel
      rcases Nat.lt_or_ge xs.length tos.length with hlt | hge
      · have hlt' : (xs.length : Int) < (tos.length : Int) := by omega
        have HGT := hid (bes_get HBD.out hlt)
        rcases HTS.out.1.row with h0 | ⟨tb, off, rfl, htb, hit⟩
        · omega
        have hkW : ∀ b, besS W x tos.length (some ⟨tb, off, none⟩) b → b < W.heap.size → wr.heap[b]? = W.heap[b]? := fun b hb hl => (HBS.out.kp.2 b hb).trans (HN1.out.block b hl id)
        have ct : wr.cell? ⟨tb, off + xs.length, none⟩ = some (.string tos[xs.length]) := by
          rw [← hit xs.length hlt]
          unfold World.cell?
          rw [hkW tb (.inr ⟨htb, _, .inl ⟨by omega, rfl⟩, rfl⟩) htb]
        have HSB := hid (HTS.out.2 _ (List.getElem_mem hlt))
        generalize tos[xs.length] = t at *
        have HLT : Hid (xs.length < tos.length) := hlt
        have HR2 : Hid (IntsAt wr wr.heap.size x.ra x.m.reads ∧ IntsAt wr wr.heap.size x.wa x.m.writes) := by
          have hs := Nat.le_trans HN1.out.size HBS.out.kp.1
          exact ⟨ints_keep HXR.out.2.1 (fun a h0 ha hl => hkW _ (.inr ⟨hl, a, .inr (.inl ⟨h0, ha⟩), rfl⟩) hl) hs, ints_keep HXR.out.2.2 (fun a h0 ha hl => hkW _ (.inr ⟨hl, a, .inr (.inr ⟨h0, ha⟩), rfl⟩) hl) hs⟩
        have HBX : Hid (wr.heap[W.heap.size]? = some (.cells (mvCells x.m x.m.to (.slice x.ra x.m.reads.length x.rc) (.slice x.wa x.m.writes.length x.wc)) 69 (0, 0))) := (HBS.out.kp.2 _ (.inl rfl)).trans HA1.out
        clear hkW hit hlt c5
        go_upto_region 6 with fail
        clear ct
        obtain ⟨p0, p1, p2, p3, p4, p5, p6, p7, p8⟩ := cells9 HBX.out
        refine (wpIn_wide (n := n)).1 ?_
        gi_wp2_with fail
        refine ⟨trivial, fun h => by simp [Fence.wide] at h, (callsIn_wide.2 (numMove_any wr x t HSB.out HXR.out.1 HR2.out.1 HR2.out.2)).mono ?_⟩
        rintro e w2 ⟨hn2, y, rfl, hym, hyo⟩
        have hlr : ∀ b, O b → b < wr.heap.size := HT.out.lt _ _ _ HBS.out.j
        have hyb : ∀ b, y.blk b → wr.heap.size ≤ b := fun b hb => (hyo.ge hb).1
        have hsz : W.heap.size ≤ wr.heap.size := Nat.le_trans HN1.out.size HBS.out.kp.1
        obtain ⟨fn, tmps, assign, body, hy, hR⟩ := HT.out.yld (pre0 ++ xs) y w2 O (HT.out.nu _ _ _ _ HBS.out.j hn2) (Nat.le_trans hB (Nat.le_trans hsz hn2.size)) (by rw [hym, List.length_append]; exact HMS.out _ _ HGT.out) (hyo.mv (Mv.refl (fun _ => False) _) (fun _ _ => id) (Nat.le_trans hB hsz)) (fun b hb ho => by have h1 := hyb b hb; have h2 := hlr b ho; omega)
        have hy' : (Instr.yield l #[y.val]).run Try.prog w2 = .ok (.round l fn tmps assign body) w2 := hy
        have HR := hid hR
        have HYB := hid hyb
        have HYM := hid hym
        have HN2 := hid hn2
        have HSZ := hid hsz
        clear hR hy hyb hym hyo hn2 hsz hlr p0 p1 p2 p3 p4 p5 p6 p7 p8
        gi_wp2_with fail
        refine ⟨fun h => by simp [Fence.wide] at h, HR.out.mono ?_⟩
        rintro e W3 hE
        clear hy' HR
        rcases hE with ⟨rfl, O', hJ3, hO', hmv⟩ | ⟨rfl, hJx3, hmx⟩
        · have hlen : (xs ++ [y]).length = xs.length + 1 := by simp
          have HB3 : Hid (Bs W w1 W3 (besS W x tos.length (some ⟨tb, off, none⟩)) J pre0 O0 (besideM tos x.m) (xs ++ [y]) O') := by
            have hsn : ∀ b, besS W x tos.length (some ⟨tb, off, none⟩) b → ¬ (O b ∨ y.blk b) ∧ b < wr.heap.size := fun b hb => by
              have h1 : b < w1.heap.size := (HS1.out b hb).1
              have h2 := HBS.out.kp.1
              refine ⟨fun h => ?_, by omega⟩
              rcases h with h | h
              · exact HBS.out.s b hb h
              · have := HYB.out b h; omega
            refine ⟨?_, by rw [← List.append_assoc]; exact hJ3, fun b hb => ?_, fun b hb ho => ?_, (HBS.out.mv.trans HN2.out (fun _ h => h.elim)).trans hmv (fun b hb => ?_), HBS.out.kp.trans ((HN2.out.keep (fun b hb => ⟨(hsn b hb).2, id⟩)).trans (hmv.keep (fun b hb => ⟨Nat.lt_of_lt_of_le (hsn b hb).2 HN2.out.size, (hsn b hb).1⟩)))⟩
            · rw [List.map_append, HBS.out.eq, hlen, List.take_add_one, HGT.out]
              simp [HYM.out]
            · rcases hO' b hb with h | h | h
              · exact HBS.out.o b h
              · exact .inr (Nat.le_trans HSZ.out (HYB.out b h))
              · exact .inr (Nat.le_trans HSZ.out (Nat.le_trans HN2.out.size h))
            · rcases hO' b ho with h | h | h
              · exact (hsn b hb).1 (.inl h)
              · exact (hsn b hb).1 (.inr h)
              · have h1 := (hsn b hb).2
                have h2 := HN2.out.size
                omega
            · rcases hb with h | h
              · exact HBS.out.o b h
              · exact .inr (Nat.le_trans HSZ.out (HYB.out b h))
          clear hJ3 hO' hmv
          gi_wp2_with fail
          go_wp2
          go_roundw
          case rel => exact ⟨xs ++ [y], O', by rw [hlen]; exact HLT.out, by rw [hlen]; go_num, HB3.out⟩
          case measure => have := HLT.out; simp [intOf]; omega
        · have HRE : Hid (BsOut l W J Jx pre0 O0 (besideM tos x.m) (.returned (.bool false)) W3) := .inr ⟨rfl, ⟨_, hJx3⟩, ((HBS.out.mv.mono (fun b hb => .inl (.inl hb))).trans HN2.out (fun _ h => h.elim)).trans hmx (fun b hb => by
            rcases hb with h | h | h
            · exact (HBS.out.o b h).imp .inl id
            · exact .inr (Nat.le_trans HSZ.out (HYB.out b h))
            · exact .inl (.inr h))⟩
          clear hJx3 hmx
          gi_wp2_with fail
          go_wp2
          go_ret
          exact HRE.out
      · have he : xs.length = tos.length := by omega
        have HRE : Hid (BsOut l W J Jx pre0 O0 (besideM tos x.m) (.returned (.bool true)) wr) := .inl ⟨rfl, xs, O, by rw [HBS.out.eq, he, List.take_of_length_le (by rw [bes_len HBD.out]; exact Nat.le_refl _)], HBS.out.j, HBS.out.o, HBS.out.mv⟩
        have he' : ¬ (xs.length : Int) < (tos.length : Int) := by omega
        clear he hge
        go_wp2
        go_ret
        exact HRE.out
  · have HBE : Hid (besideM tos x.m = [x.m]) := by show _ = _; unfold besideM; rw [if_neg hbad]
    have HNM : Hid (numMv ⟨#[]⟩ x.m = x.m) := by show _ = _; unfold numMv; rw [if_neg hbad]
    go_upto_region 2 with fail
    refine (wpIn_wide (n := n)).1 ?_
    obtain ⟨p0, p1, p2, p3, p4, p5, p6, p7, p8⟩ := cells9 HA1.out
    gi_wp2_with fail
    refine ⟨trivial, fun h => by simp [Fence.wide] at h, (callsIn_wide.2 (numMove_any w1 x ⟨#[]⟩ (by unfold SmallB; decide) HXR.out.1 (HXR.out.2.1.below HN1.out.nu_below HN1.out.size) (HXR.out.2.2.below HN1.out.nu_below HN1.out.size))).mono ?_⟩
    rintro e w2 ⟨hn2, y, rfl, hym, hyo⟩
    have hW2 := mv0 HN1.out hn2
    have hyb : ∀ b, y.blk b → W.heap.size ≤ b := fun b hb => Nat.le_trans HN1.out.size (hyo.ge hb).1
    rw [HNM.out] at hym
    obtain ⟨fn, tmps, assign, body, hy, hR⟩ := HT.out.yld pre0 y w2 O0 (HT.out.nu _ _ _ _ HJ.out hW2) (Nat.le_trans hB hW2.size) (by rw [hym]; exact HMS.out 0 x.m (by rw [HBE.out]; rfl)) (hyo.mv (Mv.refl (fun _ => False) _) (fun _ _ => id) (Nat.le_trans hB HN1.out.size)) (fun b hb ho => by have h1 := hyb b hb; have h2 := HT.out.lt _ _ _ HJ.out b ho; omega)
    have hy' : (Instr.yield l #[y.val]).run Try.prog w2 = .ok (.round l fn tmps assign body) w2 := hy
    have HR := hid hR
    have HYB := hid hyb
    have HYM := hid hym
    have HW2 := hid hW2
    clear hR hy hyb hym hyo hn2 hW2 p0 p1 p2 p3 p4 p5 p6 p7 p8 c5 hbad
    gi_wp2_with fail
    refine ⟨fun h => by simp [Fence.wide] at h, HR.out.mono ?_⟩
    rintro e W3 hE
    clear hy' HR
    rcases hE with ⟨rfl, O', hJ3, hO', hmv⟩ | ⟨rfl, hJx3, hmx⟩
    · have HRE : Hid (BsOut l W J Jx pre0 O0 (besideM tos x.m) (.returned (.bool true)) W3) := by
        refine .inl ⟨rfl, [y], O', by rw [HBE.out]; simp [HYM.out], hJ3, fun b hb => ?_, HW2.out.mono (fun _ h => h.elim) |>.trans hmv (fun b hb => hb.imp id (HYB.out b))⟩
        rcases hO' b hb with h | h | h
        · exact .inl h
        · exact .inr (HYB.out b h)
        · exact .inr (Nat.le_trans HW2.out.size h)
      clear hJ3 hO' hmv
      gi_wp2_with fail
      go_wp2
      go_ret
      exact HRE.out
    · have HRE : Hid (BsOut l W J Jx pre0 O0 (besideM tos x.m) (.returned (.bool false)) W3) := .inr ⟨rfl, ⟨_, hJx3⟩, (HW2.out.mono (fun _ h => h.elim)).trans hmx (fun b hb => by
        rcases hb with h | h | h
        · exact .inl (.inl h)
        · exact .inr (HYB.out b h)
        · exact .inl (.inr h))⟩
      clear hJx3 hmx
      gi_wp2_with fail
      go_wp2
      go_ret
      exact HRE.out

end Go.Proofs.Ytmlpndcelfdlhaa
/-
  Next of a pair: ahead of the range over the system's moves.
-/
set_option linter.unusedVariables false
set_option linter.unusedSimpArgs false
namespace Go.Proofs.Ytmlpndcelfdlhaa
open Go.RowKit

theorem p_entersNext1 : Enters 69 := fun args w => by
  unfold callFunc
  simp [go_sem, Try.func69]
  rfl
theorem p_entersBegin : Enters 65 := fun args w => by
  unfold callFunc
  simp [go_sem, Try.func65]
  rfl
theorem p_entersNext : Enters 67 := fun args w => by
  unfold callFunc
  simp [go_sem, Try.func67]
  rfl
theorem p_entersLook : Enters 66 := fun args w => by
  unfold callFunc
  simp [go_sem, Try.func66]
  rfl
theorem p_leadsBegin (pb : Nat) : Leads 60 (.pointer (some ⟨pb, 0, none⟩)) "Begin" 65 (.pointer (some ⟨pb, 0, none⟩)) :=
  ⟨fun w => by kernel_rfl, p_entersBegin, fun w => by kernel_rfl⟩
theorem p_leadsNext (pb : Nat) : Leads 60 (.pointer (some ⟨pb, 0, none⟩)) "Next" 67 (.pointer (some ⟨pb, 0, none⟩)) :=
  ⟨fun w => by kernel_rfl, p_entersNext, fun w => by kernel_rfl⟩
theorem p_leadsLook (pb : Nat) : Leads 60 (.pointer (some ⟨pb, 0, none⟩)) "Look" 66 (.pointer (some ⟨pb, 0, none⟩)) :=
  ⟨fun w => by kernel_rfl, p_entersLook, fun w => by kernel_rfl⟩

/-- How deep the loops stand does not matter. -/
theorem roundK {m m' : Nat} {P : Program} {l : Nat} {fn : FuncId} {tmps : Array Value} {assign body : Code} {w : World} {R : Ending → World → Prop} (h : RoundIn Fence.wide m P l fn tmps assign body w R) : RoundIn Fence.wide m' P l fn tmps assign body w R := ⟨trivial, fun c cs _ => h.2 c cs (fun d hd => by cases hd)⟩
theorem roundIn2 {m m' l2 : Nat} {P : Program} {l : Nat} {fn : FuncId} {tmps : Array Value} {assign body : Code} {w : World} {R : Ending → World → Prop} (h : RoundIn Fence.wide m P l fn tmps assign body w R) : RoundIn (Fence.wide.inRound l2) m' P l fn tmps assign body w R := ⟨trivial, fun c cs _ => h.2 c cs (fun d hd => by cases hd)⟩
theorem SeqN.any {n m : Nat} {gf : FuncId} {lb : Array Value} {F : Nat → Prop} {ms : List Mov} {w : World} (h : SeqN n gf lb F ms w) : SeqN m gf lb F ms w := fun l J Jx W O₀ hK hL hJ hJx hB hOF hY h0 =>
  callsIn_wide.2 (callsIn_wide.1 (h l J Jx W O₀ hK hL hJ hJx hB hOF (fun pre x W1 O h1 h2 h3 h4 h5 => by
    obtain ⟨fn, tmps, assign, body, hy, hR⟩ := hY pre x W1 O h1 h2 h3 h4 h5
    exact ⟨fn, tmps, assign, body, hy, roundK hR⟩) h0))

/-- What region 3 knows of. -/
def R3P (pb so q : Nat) (T : TypeId) (r0 : Value) (s : Sight) (st : ByteArray) (tos : List ByteArray) (H : Nat) : Nat → World → Value → Prop
  | 0, _, v => v = .pointer (some ⟨pb, 0, none⟩)
  | 1, _, v => v = .pointer (some ⟨so, q * 2, none⟩)
  | 2, _, v => v = .pointer (some ⟨pb, 0, none⟩)
  | 3, _, v => v = .pointer (some ⟨pb, 0, none⟩)
  | 4, _, v => v = .pointer (some ⟨pb, 0, none⟩)
  | 5, _, v => v = .iface T r0
  | 6, _, v => v = .string st
  | 7, _, v => v = sval s
  | 8, _, v => v = .int .u64 s.props
  | 9, w, v => ∃ ao cap, v = .slice ao tos.length cap ∧ StrsAt w w.heap.size ao tos ∧ ∀ a, ao = some a → H ≤ a.block
  | 10, w, v => ∃ nb, v = .pointer (some ⟨nb, 0, none⟩) ∧ w.heap[nb]? = some (.cells #[.slice none 0 0] 43 (0, 0)) ∧ H ≤ nb
  | _, _, v => v = undef
theorem R3P.nu {pb so q : Nat} {T : TypeId} {r0 : Value} {s : Sight} {st : ByteArray} {tos : List ByteArray} {H : Nat} : ∀ (i : Nat) (w w' : World) (v : Value), Nu w w' → R3P pb so q T r0 s st tos H i w v → R3P pb so q T r0 s st tos H i w' v := by
  intro i w w' v hn h
  unfold R3P at h ⊢
  split <;> simp only at h <;> first
    | exact h
    | (obtain ⟨ao, cap, h1, h2, h3⟩ := h; exact ⟨ao, cap, h1, h2.below hn.nu_below hn.size, h3⟩)
    | (obtain ⟨nb, h1, h2, h3⟩ := h; exact ⟨nb, h1, hn.heap h2 id, h3⟩)

theorem field_sight (x0 : Int) (x1 x2 x3 : Bool) (w : World) : (Instr.field 64 (.agg #[.int .u64 x0, .bool x1, .bool x2, .bool x3]) 0).run Try.prog w = .ok (.int .u64 x0) w := by kernel_rfl

section
variable {o : Oper} {a : Act} {w : World} {K : Act → World → Prop} {Q : Exit → Act → World → Prop} {d : Nat}
theorem lk_props {s : Nat} {x : Sight} (hd : o.dst = some d) (ho : o.op = .field 64 (.tmp s) 0) (hs : a.tmps[s]? = some (sval x)) (hK : ∀ w', Nu w w' → K ⟨a.tmps.setIfInBounds d (.int .u64 x.props), a.defers⟩ w') : Oper.wp Try.prog o a w K Q := by
  obtain ⟨x0, x1, x2, x3⟩ := x
  have he2 : a.tmps[s]?.getD undef = .agg #[.int .u64 x0, .bool x1, .bool x2, .bool x3] := by rw [hs]; rfl
  have HK : Hid (∀ w', Nu w w' → K ⟨a.tmps.setIfInBounds d (.int .u64 x0), a.defers⟩ w') := hK
  clear hK hs
  unfold Oper.wp execOp
  simp only [ho]
  go_simp
  rw [field_sight]
  show K (a.put o.dst (.int .u64 x0)) w
  rw [hd]
  exact HK.out w (Mv.refl _ _)
theorem lk_behind {s r t pb so sc no nc q : Nat} {F : Nat → Prop} {sv : Value} {A : List ASt} {p : Int} (hd : o.dst = some d) (ho : o.op = .call { callee := .value (.func 70), args := #[.tmp s, .tmp r, .tmp t], argTypes := #[60, 139, 32] })
    (hs : a.tmps[s]? = some (.pointer (some ⟨pb, 0, none⟩))) (hr : a.tmps[r]? = some (.pointer (some ⟨so, q * 2, none⟩))) (ht : a.tmps[t]? = some (.int .u64 p)) (h : PairIs w F pb sv A so sc no nc) (hF : ∀ b, F b → b < w.heap.size) (hq : q < A.length)
    (hK : ∀ w' ao cap, Nu w w' → StrsAt w' w'.heap.size ao (tosA A q p) → (∀ a, ao = some a → w.heap.size ≤ a.block) → K ⟨a.tmps.setIfInBounds d (.slice ao (tosA A q p).length cap), a.defers⟩ w') : Oper.wp Try.prog o a w K Q := by
  have he : a.eval (.tmp s) = .pointer (some ⟨pb, 0, none⟩) := by simp [Act.eval, hs]
  have her : a.eval (.tmp r) = .pointer (some ⟨so, q * 2, none⟩) := by simp [Act.eval, hr]
  have het : a.eval (.tmp t) = .int .u64 p := by simp [Act.eval, ht]
  unfold Oper.wp execOp
  simp only [ho, hd]
  go_simp
  refine (behind_any w F pb sv A so sc no nc h hF q hq p).mono ?_
  rintro e w' ⟨hn, ao, cap, rfl, hst, hnw⟩
  exact hK w' ao cap hn hst hnw
theorem lk_allocSt (hd : o.dst = some d) (ho : o.op = .alloc 43) (hK : K ⟨a.tmps.setIfInBounds d (.pointer (some ⟨w.heap.size, 0, none⟩)), a.defers⟩ (w.alloc (.cells #[.slice none 0 0] 43))) : Oper.wp Try.prog o a w K Q := by
  unfold Oper.wp execOp
  simp only [ho, hd]
  go_simp
  exact hK
end

end Go.Proofs.Ytmlpndcelfdlhaa
