/-
  JBits, JAbout, JFoot.
-/
import Derived.Shelf.Spec.TrailingZeros
import Derived.Test.YtiinmaedmkgfoaaDoorM25
import Derived.Test.YtiinmaedmkgfoaaDoorM32
import Derived.Test.YtiinmaedmkgfoaaDoorM34
/-
  The numbers of the bits of a set: the library's TrailingZeros64, the program's listed.
-/
set_option linter.unusedVariables false
set_option linter.unusedSimpArgs false
namespace Go.Proofs.YtiinmaedmkgfoaaDoor
open Go.RowKit

theorem and_pred_lt {x : Nat} (h : x ≠ 0) : x &&& (x - 1) < x := Nat.lt_of_le_of_lt Nat.and_le_right (by omega)
/-- The numbers of the bits of a set, rising. -/
def bitsOf (x : Nat) : List Nat := if h : x = 0 then [] else Lib.ctz 64 x :: bitsOf (x &&& (x - 1))
termination_by x
decreasing_by exact and_pred_lt h
theorem bitsOf_zero : bitsOf 0 = [] := by rw [bitsOf]; simp
theorem bitsOf_step {x : Nat} (h : x ≠ 0) : bitsOf x = Lib.ctz 64 x :: bitsOf (x &&& (x - 1)) := by rw [bitsOf, dif_neg h]

theorem ctz_mem {x : Nat} (hx : x < 18446744073709551616) (h : x ≠ 0) : x.testBit (Lib.ctz 64 x) = true ∧ Lib.ctz 64 x < 64 := by
  obtain ⟨h1, h2⟩ := Lib.lowest_bit 64 x h hx
  refine ⟨?_, h2⟩
  have := congrArg (fun y => y.testBit (Lib.ctz 64 x)) h1
  simp only [Nat.testBit_and, Nat.testBit_two_pow_self, Bool.and_eq_true] at this
  exact this.1
theorem bitsOf_mem : ∀ {x : Nat}, x < 18446744073709551616 → ∀ n ∈ bitsOf x, x.testBit n = true ∧ n < 64 := by
  intro x
  induction x using Nat.strongRecOn with
  | _ x ih =>
    intro hx n hn
    by_cases h : x = 0
    · rw [h, bitsOf_zero] at hn; cases hn
    · rw [bitsOf_step h] at hn
      rcases List.mem_cons.1 hn with rfl | hn
      · exact ctz_mem hx h
      · obtain ⟨h1, h2⟩ := ih _ (and_pred_lt h) (Nat.lt_of_lt_of_le (and_pred_lt h) (by omega)) n hn
        rw [Nat.testBit_and, Bool.and_eq_true] at h1
        exact ⟨h1.1, h2⟩
theorem low_clear {y m k : Nat} (h : y = 2 ^ k * (2 * m + 1)) : ∀ i, i ≤ k → (y &&& (y - 1)).testBit i = false := by
  intro i hi
  rw [Nat.testBit_and]
  rcases Nat.lt_or_eq_of_le hi with hlt | rfl
  · have : y.testBit i = false := by
      rw [h, Nat.testBit_two_pow_mul, decide_eq_false (by omega)]
      rfl
    rw [this, Bool.false_and]
  · have hp := Nat.two_pow_pos i
    have e : y - 1 = 2 ^ i * (2 * m) + (2 ^ i - 1) := by
      rw [h, Nat.mul_add]
      omega
    have : (y - 1).testBit i = false := by
      rw [e, Nat.testBit_two_pow_mul_add _ (by omega), if_neg (by omega), Nat.sub_self]
      simp
    rw [this, Bool.and_false]
/-- Behind a step of listed: the bits up to the least one are gone. -/
theorem ctz_clear {y : Nat} (hx : y < 18446744073709551616) (h : y ≠ 0) : ∀ i, i ≤ Lib.ctz 64 y → (y &&& (y - 1)).testBit i = false := by
  obtain ⟨m, hm, hk⟩ := Lib.ctzFrom_spec 64 y (by omega) hx
  have e : Lib.ctz 64 y = Lib.ctzFrom 64 y := by simp [Lib.ctz, h]
  rw [e]
  exact low_clear hm

set_option maxHeartbeats 1000000 in
theorem tz_core (x k idx : Nat) (w : World) (hx0 : ((x : Int) == 0) = false)
    (key : IntKind.u64.wrap (bits BinOp.and IntKind.u64 (x : Int) (IntKind.u64.wrap (-(x : Int))) * 285870213051353865) / 288230376151711744 = (idx : Int))
    (hi : idx < 64) (hk : k < 64) (hcell : w.cell? ⟨0, idx, none⟩ = some (.int .u8 k)) :
    Calls Tryd.prog 69 #[.int .u64 x] w fun e w' => e = .returned (.int .i64 k) ∧ w' = w := by
  go_enter Tryd.func69, Tryd.ntmps69
  go_wp2_with (simp only [key])
  go_ret
  exact ⟨rfl, rfl⟩
theorem tz_any (x : Nat) (hx : x < 18446744073709551616) (hx0 : x ≠ 0) (w : World) (hT : TabAt 0 Lib.deBruijn64tab w) : Calls Tryd.prog 69 #[.int .u64 x] w fun e w' => e = .returned (.int .i64 (Lib.ctz 64 x)) ∧ w' = w := by
  obtain ⟨hlow, hk⟩ := Lib.lowest_bit 64 x hx0 hx
  obtain ⟨hi, htab⟩ := Lib.deBruijn64_at _ hk
  have hcell := hT _ hi
  rw [htab] at hcell
  exact tz_core x _ _ w (by simp; omega) (tz64_key x _ hx hx0 hlow) hi hk hcell

theorem tab_nu {w w' : World} (h : TabAt 0 Lib.deBruijn64tab w) (hn : Nu w w') : TabAt 0 Lib.deBruijn64tab w' := fun j hj => cell_mv hn (h j hj) id

set_option maxHeartbeats 4000000 in
set_option maxRecDepth 20000 in
theorem listed_any (x : Nat) (hx : x < 18446744073709551616) (w : World) (hT : TabAt 0 Lib.deBruijn64tab w) : Calls Tryd.prog 61 #[.int .u64 x] w fun e w' => Nu w w' ∧ ∃ ao cap, e = .returned (.slice ao (bitsOf x).length cap) ∧ OwnI w' w.heap.size ao cap (ints (bitsOf x)) := by
  have HT := hid hT
  have HX := hid hx
  obtain ⟨i0, hi0, hz0, hz1, hz2⟩ := info_parts c_infoInt
  have HI := hid (And.intro hi0 (And.intro hz0 (And.intro hz1 hz2)))
  clear hT hi0 hz0 hz1 hz2
  go_enter Tryd.func61, Tryd.ntmps61
  go_wp2
  go_loopw [0, 3] (fun xv ov wr => ∃ (y : Nat) (l : List Nat) (ao : Option Addr) (cap : Nat), xv = .int .u64 (y : Int) ∧ ov = .slice ao l.length cap ∧ Hid (bitsOf x = l ++ bitsOf y ∧ y < 18446744073709551616 ∧ l.length ≤ 64 ∧ ∀ i, i < l.length → y.testBit i = false) ∧ Hid (wr.ownsRow w.heap.size 3 1 (.slice ao l.length cap) l.length ((ints l).map (Value.int .i64))) ∧ Hid (Nu w wr)) (fun xv _ _ => (intOf xv).toNat)
  case atStart => exact ⟨x, [], none, 0, rfl, rfl, ⟨rfl, hx, by simp, fun i hi => absurd hi (by simp)⟩, ⟨rfl, .inl ⟨rfl, rfl⟩⟩, Mv.refl _ _⟩
  case round =>
    obtain ⟨y, l, ao, cap, rfl, rfl, HB, HOW, HNR⟩ := hrel
    by_cases h0 : y = 0
    · subst h0
      have HE : Hid (bitsOf x = l) := by have := HB.out.1; rwa [bitsOf_zero, List.append_nil] at this
      have HOO : Hid (OwnI wr w.heap.size ao cap (ints l)) := by
        have h1 := HOW.out
        rw [← ints_length] at h1
        exact own_of_row h1 (by rw [ints_length]; have := HB.out.2.2.1; omega)
      rw [show ((0 : Nat) : Int) = 0 from rfl]
      go_wp2
      go_ret
      exact ⟨HNR.out, ao, cap, by rw [HE.out]; rfl, by rw [HE.out]; exact HOO.out⟩
    obtain ⟨hb1, hb2, hb3, hb4⟩ := HB.out
    obtain ⟨hc1, hc2⟩ := ctz_mem hb2 h0
    have hlk : l.length ≤ Lib.ctz 64 y := by
      rcases Nat.lt_or_ge (Lib.ctz 64 y) l.length with hlt | hge
      · rw [hb4 _ hlt] at hc1; cases hc1
      · exact hge
    have HB2 : Hid (bitsOf x = (l ++ [Lib.ctz 64 y]) ++ bitsOf (y &&& (y - 1)) ∧ (y &&& (y - 1)) < 18446744073709551616 ∧ (l ++ [Lib.ctz 64 y]).length ≤ 64 ∧ ∀ i, i < (l ++ [Lib.ctz 64 y]).length → (y &&& (y - 1)).testBit i = false) := by
      refine ⟨by rw [hb1, bitsOf_step h0]; simp, Nat.lt_trans (and_pred_lt h0) hb2, by simp; omega, fun i hi => ctz_clear hb2 h0 i (by simp at hi; omega)⟩
    have HTZ := hid (tz_any y hb2 h0 wr (tab_nu HT.out HNR.out))
    have HLT : Hid (y &&& (y - 1) < y) := and_pred_lt h0
    have h1 : ¬ (y : Int) = 0 := by omega
    have hsub : IntKind.u64.wrap ((y : Int) - 1) = ((y - 1 : Nat) : Int) := by rw [IntKind.wrap_u64]; omega
    have hand : bits .and .u64 (y : Int) ((y - 1 : Nat) : Int) = ((y &&& (y - 1) : Nat) : Int) := bits_and_u64_nat y (y - 1) hb2 (by omega)
    have hl64 : l.length < 64 := by omega
    have HYB := hid hb2
    clear hb1 hb2 hb3 hb4 hc1 hlk HB
    obtain ⟨z, HZ⟩ : ∃ z, Hid (y &&& (y - 1) = z) := ⟨_, rfl⟩
    rw [HZ.out] at HB2 HLT hand
    generalize Lib.ctz 64 y = n at *
    go_upto_region 4 with fail
    have HAL := hid (Mv.alloc (fun _ => False) wr (.cells #[.int .i64 ((n : Nat) : Int)] 3))
    have HOA := hid (row_mv HAL.out HOW.out (fun _ _ => id))
    have hz3 : w.heap.size ≤ wr.heap.size := HNR.out.size
    go_wp2_with (first | (go_at_call 69; refine HTZ.out.mono ?_; rintro e w' ⟨rfl, rfl⟩) | (at_builtin; refine wpList_append_own _ rfl _ _ 22 rfl w.heap.size 3 i0 (.int .i64 0) 1 8 Tryd.underlying22 HI.out.1 HI.out.2.1 HI.out.2.2.1 HI.out.2.2.2 rfl (by decide) _ _ _ rfl HOA.out ⟨w'.heap.size, 0, none⟩ 1 1 [.int .i64 ((n : Nat) : Int)] rfl rfl (cell_one_new _ _ _) (by intro u hu; simp at hu; subst hu; rfl) (by unfold maxLen; omega) (by omega) (by simp; omega) ?_))
    intro v' w4 hown4 hg4 _
    have HM4 : Hid (Mv (fun x => (Value.slice ao l.length cap).ownBlock = some x) w' w4) := (HAL.out.mono (fun _ h => h.elim)).trans (Mv.grown hg4) (fun x hx => .inl hx)
    have hlen : (l ++ [n]).length = l.length + 1 := by simp
    have HN4 : Hid (Nu w w4) := HNR.out.trans HM4.out (fun x hx => .inr ((row_blk HOW.out hx).1))
    rw [← ints_snoc, ← hlen] at hown4
    obtain ⟨ao4, cap4, rfl⟩ : ∃ ao4 cap4, v' = .slice ao4 (l ++ [n]).length cap4 := by
      rcases hown4.2 with ⟨_, hn'⟩ | ⟨g, cap4, _, hv, _⟩
      · rw [hlen] at hn'; omega
      · exact ⟨_, _, hv⟩
    have HOW4 := hid hown4
    clear hown4 hg4
    go_wp2
    go_roundw
    case rel => exact ⟨z, l ++ [n], ao4, cap4, rfl, rfl, HB2.out, HOW4.out, HN4.out⟩
    case measure => have := HLT.out; simp [intOf]; omega

end Go.Proofs.YtiinmaedmkgfoaaDoor
/-
  The program's about: the propositions that speak of an object.
-/
set_option linter.unusedVariables false
set_option linter.unusedSimpArgs false
namespace Go.Proofs.YtiinmaedmkgfoaaDoor
open Go.RowKit

def aboutTo (ps : List (Int × Int)) (o : Int) : Nat → Nat
  | 0 => 0
  | k + 1 => if (ps[k]?).map (·.1) = some o then aboutTo ps o k ||| 2 ^ k else aboutTo ps o k
def aboutN (ps : List (Int × Int)) (o : Int) : Nat := aboutTo ps o ps.length
theorem aboutTo_lt (ps : List (Int × Int)) (o : Int) : ∀ k, aboutTo ps o k < 2 ^ k
  | 0 => by simp [aboutTo]
  | k + 1 => by
    have h := aboutTo_lt ps o k
    have h1 : aboutTo ps o k < 2 ^ (k + 1) := by rw [Nat.pow_succ]; omega
    unfold aboutTo
    split
    · exact Nat.or_lt_two_pow h1 (by rw [Nat.pow_succ]; have := Nat.two_pow_pos k; omega)
    · exact h1

theorem wrap_bit {i : Nat} (hi : i < 64) : IntKind.u64.wrap (2 ^ i) = ((2 ^ i : Nat) : Int) := by
  have h1 : 2 ^ i < 2 ^ 64 := Nat.pow_lt_pow_right (by decide) hi
  have h2 : ((2 : Int) ^ i) = ((2 ^ i : Nat) : Int) := by simp
  rw [h2]
  generalize 2 ^ i = y at *
  rw [IntKind.wrap_u64]
  omega
theorem or_bit {a i : Nat} (ha : a < 18446744073709551616) (hi : i < 64) : bits .or .u64 (a : Int) (IntKind.u64.wrap (2 ^ i)) = ((a ||| 2 ^ i : Nat) : Int) := by
  rw [wrap_bit hi]
  exact bits_or_u64_nat a (2 ^ i) ha (Nat.pow_lt_pow_right (by decide) hi)
theorem about_small {a i : Nat} (h : a < 2 ^ i) (hi : i ≤ 60) : a < 18446744073709551616 := Nat.lt_of_lt_of_le h (Nat.le_trans (Nat.pow_le_pow_right (by decide) hi) (by decide))

set_option maxHeartbeats 4000000 in
set_option maxRecDepth 20000 in
theorem about_any (w : World) (B : Nat) (ra : Option Addr) (rc : Nat) (ps : List (Int × Int)) (h : RowV B 2 (TRAt w) (.slice ra ps.length rc) ps) (hl : ps.length ≤ 60) (ob : Int) : Calls Tryd.prog 68 #[.slice ra ps.length rc, .int .i64 ob] w fun e w' => e = .returned (.int .u64 (aboutN ps ob : Int)) ∧ Nu w w' := by
  obtain ⟨ra', rc', hv, hlim, hrow⟩ := h
  simp only [Value.slice.injEq] at hv
  obtain ⟨rfl, _, rfl⟩ := hv
  have HR := hid hrow
  have HL := hid hl
  clear hrow hl
  go_enter Tryd.func68, Tryd.ntmps68
  go_wp2
  go_loopw [5, 10] (fun ov iv wr => ∃ (i : Nat), i ≤ ps.length ∧ iv = .int .i64 (i : Int) ∧ ov = .int .u64 (aboutTo ps ob i : Int) ∧ Hid (Nu w wr)) (fun _ iv _ => ps.length - (intOf iv).toNat)
  case atStart => exact ⟨0, Nat.zero_le _, rfl, rfl, Mv.refl _ _⟩
  case round =>
    obtain ⟨i, hi, rfl, rfl, HNR⟩ := hrel
    rcases Nat.lt_or_ge i ps.length with hlt | hge
    case inr =>
      obtain rfl : i = ps.length := by omega
      go_wp2
      go_ret
      exact ⟨rfl, HNR.out⟩
    have hlt' : (i : Int) < (ps.length : Int) := by omega
    rcases HR.out with h0 | ⟨b, off, rfl, _, hit⟩
    · omega
    obtain ⟨c0, c1⟩ := hit i hlt
    replace c0 := cell_mv HNR.out c0 id
    replace c1 := cell_mv HNR.out c1 id
    have HS : Hid (aboutTo ps ob (i + 1) = if (ps[i]).1 = ob then aboutTo ps ob i ||| 2 ^ i else aboutTo ps ob i) := by
      show _ = _
      rw [aboutTo, List.getElem?_eq_getElem hlt]
      simp
    have HLT := hid hlt
    generalize ps[i] = p at *
    obtain ⟨po, pv⟩ := p
    simp only at c0 c1
    have h60 : i < 60 := by have := HL.out; omega
    have HAL := hid (aboutTo_lt ps ob i)
    clear hit hlt
    go_upto_region 5 with fail
    have HNY : Hid (Nu w (wr.alloc (.cells #[.int .i64 po, .int .i64 pv] 70))) := mv0 HNR.out (Mv.alloc _ _ _)
    have HBY : Hid ((wr.alloc (.cells #[.int .i64 po, .int .i64 pv] 70)).heap[wr.heap.size]? = some (.cells #[.int .i64 po, .int .i64 pv] 70 (0, 0))) := heap_alloc_new wr _
    generalize wr.alloc (.cells #[.int .i64 po, .int .i64 pv] 70) = wy at *
    obtain ⟨y0, y1⟩ := cells2 HBY.out
    clear c0 c1
    by_cases he : po = ob
    · subst he
      have HS2 : Hid (aboutTo ps po (i + 1) = aboutTo ps po i ||| 2 ^ i) := by have := HS.out; rwa [if_pos rfl] at this
      go_wp2
      refine ⟨⟨i + 1, HLT.out, by go_num, ?_, HNY.out⟩, ?_⟩
      · rw [HS2.out, or_bit (about_small HAL.out (by omega)) (by omega)]
      · have := HLT.out; simp [intOf]; omega
    · have HS2 : Hid (aboutTo ps ob (i + 1) = aboutTo ps ob i) := by have := HS.out; rwa [if_neg he] at this
      go_wp2
      go_roundw
      case rel => exact ⟨i + 1, HLT.out, by go_num, by rw [HS2.out], HNY.out⟩
      case measure => have := HLT.out; simp [intOf]; omega

end Go.Proofs.YtiinmaedmkgfoaaDoor
/-
  The program's footOf: what an arc of a node does.
-/
set_option linter.unusedVariables false
set_option linter.unusedSimpArgs false
namespace Go.Proofs.YtiinmaedmkgfoaaDoor
open Go.RowKit

/-- What arcs read, write and turn, as bits. -/
structure Ft where
  r : Nat
  w : Nat
  t : Nat
def Ft.val (f : Ft) : Value := .agg #[.int .u64 (f.r : Int), .int .u64 (f.w : Int), .int .u64 (f.t : Int)]
def Ft.Small (f : Ft) : Prop := f.r < 18446744073709551616 ∧ f.w < 18446744073709551616 ∧ f.t < 18446744073709551616

def markB (x y : TN) : Bool := x.en != y.en || (x.pr != y.pr || x.ac != y.ac)
def footN (ps : List (Int × Int)) (x y : TN) (a : TA) : Ft := ⟨if a.test then 2 ^ a.object.toNat else 0, if a.set then 2 ^ a.setObject.toNat else 0, if markB x y then (if a.set then aboutN ps a.setObject else 0) ||| 9223372036854775808 else (if a.set then aboutN ps a.setObject else 0)⟩

theorem set3 {w : World} {b : Nat} {t : TypeId} {z0 z1 z2 v0 v1 v2 : Value} (h : w.heap[b]? = some (.cells #[z0, z1, z2] t (0, 0))) :
    (((w.setCell ⟨b, 0, none⟩ v0).setCell ⟨b, 1, none⟩ v1).setCell ⟨b, 2, none⟩ v2).heap[b]? = some (.cells #[v0, v1, v2] t (0, 0)) ∧ Mv (· = b) w (((w.setCell ⟨b, 0, none⟩ v0).setCell ⟨b, 1, none⟩ v1).setCell ⟨b, 2, none⟩ v2) := by
  have h0 := setCell_blk (i := 0) (u := v0) h
  have h1 := setCell_blk (i := 1) (u := v1) h0
  have h2 := setCell_blk (i := 2) (u := v2) h1
  simp only [List.setIfInBounds_toArray, List.set_cons_succ, List.set_cons_zero] at h2
  refine ⟨h2, ?_⟩
  have m (W : World) (i : Nat) (u : Value) : Mv (· = b) W (W.setCell ⟨b, i, none⟩ u) := Mv.setCell W ⟨b, i, none⟩ u
  have t2 {A B C : World} (h : Mv (· = b) A B) (k : Mv (· = b) B C) : Mv (· = b) A C := h.trans k (fun _ h => .inl h)
  exact t2 (t2 (m _ _ _) (m _ _ _)) (m _ _ _)
theorem old_cell {w w1 W : World} {fb b o : Nat} {v : Value} (hn : Nu w w1) (hm : Mv (· = fb) w1 W) (hf : w.heap.size ≤ fb) (hc : w.cell? ⟨b, o, none⟩ = some v) : W.cell? ⟨b, o, none⟩ = some v := by
  have hlt := World.block_lt_of_cell? w _ hc
  exact cell_mv hm (cell_mv hn hc id) (fun e => by have e' : b = fb := e; simp only at hlt; omega)
theorem set3_at {w : World} {b i : Nat} {t : TypeId} {z0 z1 z2 u : Value} (h : w.heap[b]? = some (.cells #[z0, z1, z2] t (0, 0))) : (w.setCell ⟨b, i, none⟩ u).heap[b]? = some (.cells (#[z0, z1, z2].setIfInBounds i u) t (0, 0)) := setCell_blk h

theorem mark_cases (e1 e2 g1 g2 d1 d2 : Bool) : (¬ e1 = e2 ∧ (e1 != e2 || (g1 != g2 || d1 != d2)) = true) ∨ (e1 = e2 ∧ ¬ g1 = g2 ∧ (e1 != e2 || (g1 != g2 || d1 != d2)) = true) ∨ (e1 = e2 ∧ g1 = g2 ∧ ¬ d1 = d2 ∧ (e1 != e2 || (g1 != g2 || d1 != d2)) = true) ∨ (e1 = e2 ∧ g1 = g2 ∧ d1 = d2 ∧ (e1 != e2 || (g1 != g2 || d1 != d2)) = false) := by
  cases e1 <;> cases e2 <;> cases g1 <;> cases g2 <;> cases d1 <;> cases d2 <;> decide
theorem about_lt {ps : List (Int × Int)} (hl : ps.length ≤ 60) (o : Int) : aboutN ps o < 18446744073709551616 := about_small (aboutTo_lt ps o ps.length) hl
theorem or_mark {a : Nat} (ha : a < 18446744073709551616) : bits .or .u64 (a : Int) 9223372036854775808 = ((a ||| 9223372036854775808 : Nat) : Int) := bits_or_u64_nat a 9223372036854775808 ha (by decide)
theorem bit_pow {n : Int} (h0 : 0 ≤ n) (h1 : n < 64) : ∃ k : Nat, n = (k : Int) ∧ k < 64 ∧ n.toNat = k := ⟨n.toNat, by omega, by omega, rfl⟩

set_option maxHeartbeats 8000000 in
set_option maxRecDepth 40000 in
theorem footOf_any (w : World) (B : Nat) (ao : Option Addr) (cap : Nat) (l : List TN) (h : RowV B 4 (TNAt w B) (.slice ao l.length cap) l) (ra : Option Addr) (rc : Nat) (ps : List (Int × Int)) (hr : RowV B 2 (TRAt w) (.slice ra ps.length rc) ps) (hl : ps.length ≤ 60) (i k : Nat) (x : TN) (a : TA) (hx : l[i]? = some x) (ha : x.arcs[k]? = some a) (objs : Int) (hob : objs ≤ 16) (hta : taB l.length objs a = true) (hlen : l.length ≤ 60) (hk : x.arcs.length ≤ 1000) (y : TN) (hy : l[a.to.toNat]? = some y) :
    Calls Tryd.prog 58 #[.slice ao l.length cap, .slice ra ps.length rc, .int .i64 (i : Int), .int .i64 (k : Int)] w fun e w' => e = .returned (footN ps x y a).val ∧ Nu w w' := by
  obtain ⟨ao', cap', hv, hlim, hrow⟩ := h
  simp only [Value.slice.injEq] at hv
  obtain ⟨rfl, _, rfl⟩ := hv
  obtain ⟨hi, hxi⟩ := List.getElem?_eq_some_iff.1 hx
  obtain ⟨hki, hak⟩ := List.getElem?_eq_some_iff.1 ha
  obtain ⟨hyi, hyk⟩ := List.getElem?_eq_some_iff.1 hy
  rcases hrow with h0 | ⟨b, off, rfl, hb, hit⟩
  · omega
  have hX := hit i hi
  have hY := hit _ hyi
  rw [hxi] at hX
  rw [hyk] at hY
  obtain ⟨⟨_, x0, xo, xc, rfl, hxl, hxr⟩, x1, x2, x3⟩ := hX
  obtain ⟨_, y1, y2, y3⟩ := hY
  rcases hxr with h0 | ⟨ab, aoff, rfl, hab, hat⟩
  · omega
  have hA := hat k hki
  rw [hak] at hA
  obtain ⟨h1, h2, _, h4, _⟩ := taB_parts hta
  obtain ⟨j, hj, hjl, hjt⟩ : ∃ j : Nat, a.to = (j : Int) ∧ j < l.length ∧ a.to.toNat = j := ⟨a.to.toNat, by omega, by omega, rfl⟩
  rw [hjt] at y1 y2 y3
  obtain ⟨c0, c1, c2, c3, c4, c5, c6, c7⟩ := hA
  clear hit hat hx ha hy hta hxi hak hyk hyi h4
  rw [hj] at c0
  have HR := hid hr
  have HPL := hid hl
  have hil : (i : Int) < (l.length : Int) := by omega
  have hkl : (k : Int) < (x.arcs.length : Int) := by omega
  have hjl' : (j : Int) < (l.length : Int) := by omega
  obtain ⟨to, test, object, value, set, setObject, setTo, bad⟩ := a
  simp only at *
  have HN1 : Hid (Nu w ((w.alloc (.cells #[.int .u64 0, .int .u64 0, .int .u64 0] 145)).alloc (.cells #[.int .u64 0, .int .u64 0, .int .u64 0] 145))) := mv0 (Mv.alloc _ _ _) (Mv.alloc _ _ _)
  have HRB : Hid (((w.alloc (.cells #[.int .u64 0, .int .u64 0, .int .u64 0] 145)).alloc (.cells #[.int .u64 0, .int .u64 0, .int .u64 0] 145)).heap[w.heap.size]? = some (.cells #[.int .u64 0, .int .u64 0, .int .u64 0] 145 (0, 0))) := (Mv.alloc (fun _ => False) _ _).heap (heap_alloc_new w _) id
  have HFB : Hid (((w.alloc (.cells #[.int .u64 0, .int .u64 0, .int .u64 0] 145)).alloc (.cells #[.int .u64 0, .int .u64 0, .int .u64 0] 145)).heap[w.heap.size + 1]? = some (.cells #[.int .u64 0, .int .u64 0, .int .u64 0] 145 (0, 0))) := by
    have := heap_alloc_new (w.alloc (.cells #[.int .u64 0, .int .u64 0, .int .u64 0] 145)) (.cells #[.int .u64 0, .int .u64 0, .int .u64 0] 145)
    rwa [World.size_alloc] at this
  have HC0 := hid c0
  have HC1 := hid c1
  have HC2 := hid c2
  have HC4 := hid c4
  have HC5 := hid c5
  have HX0 := hid x0
  have HXS : Hid (w.cell? ⟨b, off + i * 4 + 1, none⟩ = some (.bool x.en) ∧ w.cell? ⟨b, off + i * 4 + 2, none⟩ = some (.bool x.pr) ∧ w.cell? ⟨b, off + i * 4 + 3, none⟩ = some (.bool x.ac)) := ⟨x1, x2, x3⟩
  have HYS : Hid (w.cell? ⟨b, off + j * 4 + 1, none⟩ = some (.bool y.en) ∧ w.cell? ⟨b, off + j * 4 + 2, none⟩ = some (.bool y.pr) ∧ w.cell? ⟨b, off + j * 4 + 3, none⟩ = some (.bool y.ac)) := ⟨y1, y2, y3⟩
  clear c0 c1 c2 c3 c4 c5 c6 c7 x0 x1 x2 x3 y1 y2 y3 hr hl
  go_enter Tryd.func58, Tryd.ntmps58
  go_upto_region 2 with fail
  generalize (w.alloc (.cells #[.int .u64 0, .int .u64 0, .int .u64 0] 145)).alloc (.cells #[.int .u64 0, .int .u64 0, .int .u64 0] 145) = w1 at *
  have x0 := cell_mv HN1.out HX0.out id
  go_upto_region 3 with fail
  clear x0
  have c1 := cell_mv HN1.out HC1.out id
  cases test with
  | false =>
    go_upto_region 5 with fail
    have HM2 : Hid (Mv (· = w.heap.size + 1) w1 w1) := Mv.refl _ _
    have HF2 : Hid (w1.heap[w.heap.size + 1]? = some (.cells #[.int .u64 ((0 : Nat) : Int), .int .u64 ((0 : Nat) : Int), .int .u64 ((0 : Nat) : Int)] 145 (0, 0))) := HFB.out
    clear c1
    have c4 := old_cell HN1.out HM2.out (Nat.le_succ _) HC4.out
    cases set with
    | false =>
      go_upto_region 8 with fail
      clear c4
      have HM4 := HM2
      have HF4 := HF2
      clear HM2 HF2
      obtain ⟨f0, f1, f2⟩ := cells3 HF4.out
      have c0 := old_cell HN1.out HM4.out (Nat.le_succ _) HC0.out
      go_wp2
      go_quiet (fail)
      go_upto_region 9 with fail
      have HM5 : Hid (Mv (· = w.heap.size + 1) w1 (w1.drewN nq)) := nu_mv HM4.out (nu_drewN' w1 nq)
      have HF5 : Hid ((w1.drewN nq).heap[w.heap.size + 1]? = some (.cells #[.int .u64 ((0 : Nat) : Int), .int .u64 ((0 : Nat) : Int), .int .u64 ((0 : Nat) : Int)] 145 (0, 0))) := (nu_drewN' w1 nq).heap HF4.out id
      clear c0 f0 f1 f2 HM4 HF4
      generalize w1.drewN nq = w5 at *
      have p1 := old_cell HN1.out HM5.out (Nat.le_succ _) HXS.out.1
      have p2 := old_cell HN1.out HM5.out (Nat.le_succ _) HXS.out.2.1
      have p3 := old_cell HN1.out HM5.out (Nat.le_succ _) HXS.out.2.2
      have q1 := old_cell HN1.out HM5.out (Nat.le_succ _) HYS.out.1
      have q2 := old_cell HN1.out HM5.out (Nat.le_succ _) HYS.out.2.1
      have q3 := old_cell HN1.out HM5.out (Nat.le_succ _) HYS.out.2.2
      have HMK : Hid (markB x y = (x.en != y.en || (x.pr != y.pr || x.ac != y.ac))) := rfl
      generalize x.en = e1 at *
      generalize x.pr = g1 at *
      generalize x.ac = d1 at *
      generalize y.en = e2 at *
      generalize y.pr = g2 at *
      generalize y.ac = d2 at *
      have HT : Hid (0 < 18446744073709551616) := (show (0 : Nat) < 18446744073709551616 by decide)
      rcases mark_cases e1 e2 g1 g2 d1 d2 with ⟨he, hm⟩ | ⟨rfl, he, hm⟩ | ⟨rfl, rfl, he, hm⟩ | ⟨rfl, rfl, rfl, hm⟩
      · have he1 : (e1 == e2) = false := by simpa using he
        have he2 : (e1 != e2) = true := by simpa using he
        go_quiet (fail)
        have HM6 : Hid (Mv (· = w.heap.size + 1) w1 (w5.drewN nq)) := nu_mv HM5.out (nu_drewN' w5 _)
        have HF6 : Hid ((w5.drewN nq).heap[w.heap.size + 1]? = some (.cells #[.int .u64 ((0 : Nat) : Int), .int .u64 ((0 : Nat) : Int), .int .u64 ((0 : Nat) : Int)] 145 (0, 0))) := (nu_drewN' w5 _).heap HF5.out id
        clear HM5 HF5 p1 p2 p3 q1 q2 q3
        generalize w5.drewN nq = w6 at *
        obtain ⟨f0, f1, f2⟩ := cells3 HF6.out
        have z2 := free_blk HF6.out 2
        go_upto_region 11 with fail
        have HM7 : Hid (Mv (· = w.heap.size + 1) w1 (w6.setCell ⟨w.heap.size + 1, 2, none⟩ (.int .u64 (bits .or .u64 ((0 : Nat) : Int) 9223372036854775808)))) := HM6.out.trans (Mv.setCell w6 ⟨w.heap.size + 1, 2, none⟩ _) (fun q hq => .inl hq)
        have HF7 : Hid ((w6.setCell ⟨w.heap.size + 1, 2, none⟩ (.int .u64 (bits .or .u64 ((0 : Nat) : Int) 9223372036854775808))).heap[w.heap.size + 1]? = some (.cells #[.int .u64 ((0 : Nat) : Int), .int .u64 ((0 : Nat) : Int), .int .u64 ((0 ||| 9223372036854775808 : Nat) : Int)] 145 (0, 0))) := by
          have := set3_at (i := 2) (u := .int .u64 (bits .or .u64 ((0 : Nat) : Int) 9223372036854775808)) HF6.out
          rw [or_mark HT.out] at this ⊢
          exact this
        clear f0 f1 f2 z2 HM6 HF6
        generalize w6.setCell ⟨w.heap.size + 1, 2, none⟩ (.int .u64 (bits .or .u64 ((0 : Nat) : Int) 9223372036854775808)) = w7 at *
        obtain ⟨f0, f1, f2⟩ := cells3 HF7.out
        have HRX := hid (HM7.out.heap HRB.out (fun e => by have e' : w.heap.size = w.heap.size + 1 := e; omega))
        obtain ⟨r0, r1, r2⟩ := cells3 HRX.out
        have y0 := free_blk HRX.out 0
        have y1 := free_blk HRX.out 1
        have y2 := free_blk HRX.out 2
        have HMV := hid (HMK.out.trans hm)
        clear hm
        go_wp2
        refine bodyPost_ret (results_cell_row rfl _ _ w.heap.size 145 _ (0, 0) _ rfl (set3 HRX.out).1 Tryd.underlying145 rfl (by kernel_rfl)) rfl ?_
        exact ⟨by simp [footN, Ft.val, HMV.out], (HN1.out.trans HM7.out (fun q hq => .inr (by have : q = w.heap.size + 1 := hq; omega))).trans (set3 HRX.out).2 (fun q hq => .inr (by have : q = w.heap.size := hq; omega))⟩
      · have he1 : (g1 == g2) = false := by simpa using he
        have he2 : (g1 != g2) = true := by simpa using he
        go_quiet (fail)
        have HM6 : Hid (Mv (· = w.heap.size + 1) w1 (w5.drewN nq)) := nu_mv HM5.out (nu_drewN' w5 _)
        have HF6 : Hid ((w5.drewN nq).heap[w.heap.size + 1]? = some (.cells #[.int .u64 ((0 : Nat) : Int), .int .u64 ((0 : Nat) : Int), .int .u64 ((0 : Nat) : Int)] 145 (0, 0))) := (nu_drewN' w5 _).heap HF5.out id
        clear HM5 HF5 p1 p2 p3 q1 q2 q3
        generalize w5.drewN nq = w6 at *
        obtain ⟨f0, f1, f2⟩ := cells3 HF6.out
        have z2 := free_blk HF6.out 2
        go_upto_region 11 with fail
        have HM7 : Hid (Mv (· = w.heap.size + 1) w1 (w6.setCell ⟨w.heap.size + 1, 2, none⟩ (.int .u64 (bits .or .u64 ((0 : Nat) : Int) 9223372036854775808)))) := HM6.out.trans (Mv.setCell w6 ⟨w.heap.size + 1, 2, none⟩ _) (fun q hq => .inl hq)
        have HF7 : Hid ((w6.setCell ⟨w.heap.size + 1, 2, none⟩ (.int .u64 (bits .or .u64 ((0 : Nat) : Int) 9223372036854775808))).heap[w.heap.size + 1]? = some (.cells #[.int .u64 ((0 : Nat) : Int), .int .u64 ((0 : Nat) : Int), .int .u64 ((0 ||| 9223372036854775808 : Nat) : Int)] 145 (0, 0))) := by
          have := set3_at (i := 2) (u := .int .u64 (bits .or .u64 ((0 : Nat) : Int) 9223372036854775808)) HF6.out
          rw [or_mark HT.out] at this ⊢
          exact this
        clear f0 f1 f2 z2 HM6 HF6
        generalize w6.setCell ⟨w.heap.size + 1, 2, none⟩ (.int .u64 (bits .or .u64 ((0 : Nat) : Int) 9223372036854775808)) = w7 at *
        obtain ⟨f0, f1, f2⟩ := cells3 HF7.out
        have HRX := hid (HM7.out.heap HRB.out (fun e => by have e' : w.heap.size = w.heap.size + 1 := e; omega))
        obtain ⟨r0, r1, r2⟩ := cells3 HRX.out
        have y0 := free_blk HRX.out 0
        have y1 := free_blk HRX.out 1
        have y2 := free_blk HRX.out 2
        have HMV := hid (HMK.out.trans hm)
        clear hm
        go_wp2
        refine bodyPost_ret (results_cell_row rfl _ _ w.heap.size 145 _ (0, 0) _ rfl (set3 HRX.out).1 Tryd.underlying145 rfl (by kernel_rfl)) rfl ?_
        exact ⟨by simp [footN, Ft.val, HMV.out], (HN1.out.trans HM7.out (fun q hq => .inr (by have : q = w.heap.size + 1 := hq; omega))).trans (set3 HRX.out).2 (fun q hq => .inr (by have : q = w.heap.size := hq; omega))⟩
      · have he1 : (d1 == d2) = false := by simpa using he
        have he2 : (d1 != d2) = true := by simpa using he
        go_quiet (fail)
        have HM6 : Hid (Mv (· = w.heap.size + 1) w1 (w5.drewN nq)) := nu_mv HM5.out (nu_drewN' w5 _)
        have HF6 : Hid ((w5.drewN nq).heap[w.heap.size + 1]? = some (.cells #[.int .u64 ((0 : Nat) : Int), .int .u64 ((0 : Nat) : Int), .int .u64 ((0 : Nat) : Int)] 145 (0, 0))) := (nu_drewN' w5 _).heap HF5.out id
        clear HM5 HF5 p1 p2 p3 q1 q2 q3
        generalize w5.drewN nq = w6 at *
        obtain ⟨f0, f1, f2⟩ := cells3 HF6.out
        have z2 := free_blk HF6.out 2
        go_upto_region 11 with fail
        have HM7 : Hid (Mv (· = w.heap.size + 1) w1 (w6.setCell ⟨w.heap.size + 1, 2, none⟩ (.int .u64 (bits .or .u64 ((0 : Nat) : Int) 9223372036854775808)))) := HM6.out.trans (Mv.setCell w6 ⟨w.heap.size + 1, 2, none⟩ _) (fun q hq => .inl hq)
        have HF7 : Hid ((w6.setCell ⟨w.heap.size + 1, 2, none⟩ (.int .u64 (bits .or .u64 ((0 : Nat) : Int) 9223372036854775808))).heap[w.heap.size + 1]? = some (.cells #[.int .u64 ((0 : Nat) : Int), .int .u64 ((0 : Nat) : Int), .int .u64 ((0 ||| 9223372036854775808 : Nat) : Int)] 145 (0, 0))) := by
          have := set3_at (i := 2) (u := .int .u64 (bits .or .u64 ((0 : Nat) : Int) 9223372036854775808)) HF6.out
          rw [or_mark HT.out] at this ⊢
          exact this
        clear f0 f1 f2 z2 HM6 HF6
        generalize w6.setCell ⟨w.heap.size + 1, 2, none⟩ (.int .u64 (bits .or .u64 ((0 : Nat) : Int) 9223372036854775808)) = w7 at *
        obtain ⟨f0, f1, f2⟩ := cells3 HF7.out
        have HRX := hid (HM7.out.heap HRB.out (fun e => by have e' : w.heap.size = w.heap.size + 1 := e; omega))
        obtain ⟨r0, r1, r2⟩ := cells3 HRX.out
        have y0 := free_blk HRX.out 0
        have y1 := free_blk HRX.out 1
        have y2 := free_blk HRX.out 2
        have HMV := hid (HMK.out.trans hm)
        clear hm
        go_wp2
        refine bodyPost_ret (results_cell_row rfl _ _ w.heap.size 145 _ (0, 0) _ rfl (set3 HRX.out).1 Tryd.underlying145 rfl (by kernel_rfl)) rfl ?_
        exact ⟨by simp [footN, Ft.val, HMV.out], (HN1.out.trans HM7.out (fun q hq => .inr (by have : q = w.heap.size + 1 := hq; omega))).trans (set3 HRX.out).2 (fun q hq => .inr (by have : q = w.heap.size := hq; omega))⟩
      · go_quiet (fail)
        have HM7 : Hid (Mv (· = w.heap.size + 1) w1 (w5.drewN nq)) := nu_mv HM5.out (nu_drewN' w5 _)
        have HF7 : Hid ((w5.drewN nq).heap[w.heap.size + 1]? = some (.cells #[.int .u64 ((0 : Nat) : Int), .int .u64 ((0 : Nat) : Int), .int .u64 ((0 : Nat) : Int)] 145 (0, 0))) := (nu_drewN' w5 _).heap HF5.out id
        clear HM5 HF5 p1 p2 p3 q1 q2 q3
        generalize w5.drewN nq = w7 at *
        obtain ⟨f0, f1, f2⟩ := cells3 HF7.out
        have HRX := hid (HM7.out.heap HRB.out (fun e => by have e' : w.heap.size = w.heap.size + 1 := e; omega))
        obtain ⟨r0, r1, r2⟩ := cells3 HRX.out
        have y0 := free_blk HRX.out 0
        have y1 := free_blk HRX.out 1
        have y2 := free_blk HRX.out 2
        have HMV := hid (HMK.out.trans hm)
        clear hm
        go_wp2
        refine bodyPost_ret (results_cell_row rfl _ _ w.heap.size 145 _ (0, 0) _ rfl (set3 HRX.out).1 Tryd.underlying145 rfl (by kernel_rfl)) rfl ?_
        exact ⟨by simp [footN, Ft.val, HMV.out], (HN1.out.trans HM7.out (fun q hq => .inr (by have : q = w.heap.size + 1 := hq; omega))).trans (set3 HRX.out).2 (fun q hq => .inr (by have : q = w.heap.size := hq; omega))⟩
    | true =>
      obtain ⟨ss, rfl, hss, hst⟩ := bit_pow (h2 rfl).1.1 (by have := (h2 rfl).1.2; omega)
      have c5 := old_cell HN1.out HM2.out (Nat.le_succ _) HC5.out
      obtain ⟨f0, f1, f2⟩ := cells3 HF2.out
      have z1 := free_blk HF2.out 1
      go_upto_region 7 with fail
      have HM3 : Hid (Mv (· = w.heap.size + 1) w1 (w1.setCell ⟨w.heap.size + 1, 1, none⟩ (.int .u64 (IntKind.u64.wrap (2 ^ ss))))) := HM2.out.trans (Mv.setCell w1 ⟨w.heap.size + 1, 1, none⟩ _) (fun q hq => .inl hq)
      have HF3 : Hid ((w1.setCell ⟨w.heap.size + 1, 1, none⟩ (.int .u64 (IntKind.u64.wrap (2 ^ ss)))).heap[w.heap.size + 1]? = some (.cells #[.int .u64 ((0 : Nat) : Int), .int .u64 ((2 ^ ss : Nat) : Int), .int .u64 ((0 : Nat) : Int)] 145 (0, 0))) := by
        have := set3_at (i := 1) (u := .int .u64 (IntKind.u64.wrap (2 ^ ss))) HF2.out
        rw [wrap_bit hss] at this ⊢
        exact this
      clear c4 c5 f0 f1 f2 z1 HM2 HF2
      generalize w1.setCell ⟨w.heap.size + 1, 1, none⟩ (.int .u64 (IntKind.u64.wrap (2 ^ ss))) = w3 at *
      have c5 := old_cell HN1.out HM3.out (Nat.le_succ _) HC5.out
      have HR3 : Hid (RowV B 2 (TRAt w3) (.slice ra ps.length rc) ps) := HR.out.mono (Nat.le_refl _) (fun _ _ _ _ h => ⟨old_cell HN1.out HM3.out (Nat.le_succ _) h.1, old_cell HN1.out HM3.out (Nat.le_succ _) h.2⟩)
      go_upto_region 8 with (go_at_call 68; refine (about_any _ B ra rc ps HR3.out HPL.out _).mono ?_; rintro e w3b ⟨rfl, hn3⟩; have HN3 := hid hn3; have HF3b := hid (hn3.heap HF3.out id); obtain ⟨f0, f1, f2⟩ := cells3 HF3b.out; have z2 := free_blk HF3b.out 2; clear hn3)
      have HM4 : Hid (Mv (· = w.heap.size + 1) w1 (w3b.setCell ⟨w.heap.size + 1, 2, none⟩ (.int .u64 (aboutN ps (ss : Int) : Int)))) := (nu_mv HM3.out HN3.out).trans (Mv.setCell w3b ⟨w.heap.size + 1, 2, none⟩ _) (fun q hq => .inl hq)
      have HF4 : Hid ((w3b.setCell ⟨w.heap.size + 1, 2, none⟩ (.int .u64 (aboutN ps (ss : Int) : Int))).heap[w.heap.size + 1]? = some (.cells #[.int .u64 ((0 : Nat) : Int), .int .u64 ((2 ^ ss : Nat) : Int), .int .u64 (aboutN ps (ss : Int) : Int)] 145 (0, 0))) := set3_at (i := 2) (u := .int .u64 (aboutN ps (ss : Int) : Int)) HF3b.out
      clear c5 f0 f1 f2 z2 HM3 HF3 HF3b HN3 HR3
      generalize w3b.setCell ⟨w.heap.size + 1, 2, none⟩ (.int .u64 (aboutN ps (ss : Int) : Int)) = w4 at *
      obtain ⟨f0, f1, f2⟩ := cells3 HF4.out
      have c0 := old_cell HN1.out HM4.out (Nat.le_succ _) HC0.out
      go_wp2
      go_quiet (fail)
      go_upto_region 9 with fail
      have HM5 : Hid (Mv (· = w.heap.size + 1) w1 (w4.drewN nq)) := nu_mv HM4.out (nu_drewN' w4 nq)
      have HF5 : Hid ((w4.drewN nq).heap[w.heap.size + 1]? = some (.cells #[.int .u64 ((0 : Nat) : Int), .int .u64 ((2 ^ ss : Nat) : Int), .int .u64 (aboutN ps (ss : Int) : Int)] 145 (0, 0))) := (nu_drewN' w4 nq).heap HF4.out id
      clear c0 f0 f1 f2 HM4 HF4
      generalize w4.drewN nq = w5 at *
      have p1 := old_cell HN1.out HM5.out (Nat.le_succ _) HXS.out.1
      have p2 := old_cell HN1.out HM5.out (Nat.le_succ _) HXS.out.2.1
      have p3 := old_cell HN1.out HM5.out (Nat.le_succ _) HXS.out.2.2
      have q1 := old_cell HN1.out HM5.out (Nat.le_succ _) HYS.out.1
      have q2 := old_cell HN1.out HM5.out (Nat.le_succ _) HYS.out.2.1
      have q3 := old_cell HN1.out HM5.out (Nat.le_succ _) HYS.out.2.2
      have HMK : Hid (markB x y = (x.en != y.en || (x.pr != y.pr || x.ac != y.ac))) := rfl
      generalize x.en = e1 at *
      generalize x.pr = g1 at *
      generalize x.ac = d1 at *
      generalize y.en = e2 at *
      generalize y.pr = g2 at *
      generalize y.ac = d2 at *
      have HT : Hid (aboutN ps (ss : Int) < 18446744073709551616) := about_lt HPL.out _
      rcases mark_cases e1 e2 g1 g2 d1 d2 with ⟨he, hm⟩ | ⟨rfl, he, hm⟩ | ⟨rfl, rfl, he, hm⟩ | ⟨rfl, rfl, rfl, hm⟩
      · have he1 : (e1 == e2) = false := by simpa using he
        have he2 : (e1 != e2) = true := by simpa using he
        go_quiet (fail)
        have HM6 : Hid (Mv (· = w.heap.size + 1) w1 (w5.drewN nq)) := nu_mv HM5.out (nu_drewN' w5 _)
        have HF6 : Hid ((w5.drewN nq).heap[w.heap.size + 1]? = some (.cells #[.int .u64 ((0 : Nat) : Int), .int .u64 ((2 ^ ss : Nat) : Int), .int .u64 (aboutN ps (ss : Int) : Int)] 145 (0, 0))) := (nu_drewN' w5 _).heap HF5.out id
        clear HM5 HF5 p1 p2 p3 q1 q2 q3
        generalize w5.drewN nq = w6 at *
        obtain ⟨f0, f1, f2⟩ := cells3 HF6.out
        have z2 := free_blk HF6.out 2
        go_upto_region 11 with fail
        have HM7 : Hid (Mv (· = w.heap.size + 1) w1 (w6.setCell ⟨w.heap.size + 1, 2, none⟩ (.int .u64 (bits .or .u64 (aboutN ps (ss : Int) : Int) 9223372036854775808)))) := HM6.out.trans (Mv.setCell w6 ⟨w.heap.size + 1, 2, none⟩ _) (fun q hq => .inl hq)
        have HF7 : Hid ((w6.setCell ⟨w.heap.size + 1, 2, none⟩ (.int .u64 (bits .or .u64 (aboutN ps (ss : Int) : Int) 9223372036854775808))).heap[w.heap.size + 1]? = some (.cells #[.int .u64 ((0 : Nat) : Int), .int .u64 ((2 ^ ss : Nat) : Int), .int .u64 ((aboutN ps (ss : Int) ||| 9223372036854775808 : Nat) : Int)] 145 (0, 0))) := by
          have := set3_at (i := 2) (u := .int .u64 (bits .or .u64 (aboutN ps (ss : Int) : Int) 9223372036854775808)) HF6.out
          rw [or_mark HT.out] at this ⊢
          exact this
        clear f0 f1 f2 z2 HM6 HF6
        generalize w6.setCell ⟨w.heap.size + 1, 2, none⟩ (.int .u64 (bits .or .u64 (aboutN ps (ss : Int) : Int) 9223372036854775808)) = w7 at *
        obtain ⟨f0, f1, f2⟩ := cells3 HF7.out
        have HRX := hid (HM7.out.heap HRB.out (fun e => by have e' : w.heap.size = w.heap.size + 1 := e; omega))
        obtain ⟨r0, r1, r2⟩ := cells3 HRX.out
        have y0 := free_blk HRX.out 0
        have y1 := free_blk HRX.out 1
        have y2 := free_blk HRX.out 2
        have HMV := hid (HMK.out.trans hm)
        clear hm
        go_wp2
        refine bodyPost_ret (results_cell_row rfl _ _ w.heap.size 145 _ (0, 0) _ rfl (set3 HRX.out).1 Tryd.underlying145 rfl (by kernel_rfl)) rfl ?_
        exact ⟨by simp [footN, Ft.val, HMV.out], (HN1.out.trans HM7.out (fun q hq => .inr (by have : q = w.heap.size + 1 := hq; omega))).trans (set3 HRX.out).2 (fun q hq => .inr (by have : q = w.heap.size := hq; omega))⟩
      · have he1 : (g1 == g2) = false := by simpa using he
        have he2 : (g1 != g2) = true := by simpa using he
        go_quiet (fail)
        have HM6 : Hid (Mv (· = w.heap.size + 1) w1 (w5.drewN nq)) := nu_mv HM5.out (nu_drewN' w5 _)
        have HF6 : Hid ((w5.drewN nq).heap[w.heap.size + 1]? = some (.cells #[.int .u64 ((0 : Nat) : Int), .int .u64 ((2 ^ ss : Nat) : Int), .int .u64 (aboutN ps (ss : Int) : Int)] 145 (0, 0))) := (nu_drewN' w5 _).heap HF5.out id
        clear HM5 HF5 p1 p2 p3 q1 q2 q3
        generalize w5.drewN nq = w6 at *
        obtain ⟨f0, f1, f2⟩ := cells3 HF6.out
        have z2 := free_blk HF6.out 2
        go_upto_region 11 with fail
        have HM7 : Hid (Mv (· = w.heap.size + 1) w1 (w6.setCell ⟨w.heap.size + 1, 2, none⟩ (.int .u64 (bits .or .u64 (aboutN ps (ss : Int) : Int) 9223372036854775808)))) := HM6.out.trans (Mv.setCell w6 ⟨w.heap.size + 1, 2, none⟩ _) (fun q hq => .inl hq)
        have HF7 : Hid ((w6.setCell ⟨w.heap.size + 1, 2, none⟩ (.int .u64 (bits .or .u64 (aboutN ps (ss : Int) : Int) 9223372036854775808))).heap[w.heap.size + 1]? = some (.cells #[.int .u64 ((0 : Nat) : Int), .int .u64 ((2 ^ ss : Nat) : Int), .int .u64 ((aboutN ps (ss : Int) ||| 9223372036854775808 : Nat) : Int)] 145 (0, 0))) := by
          have := set3_at (i := 2) (u := .int .u64 (bits .or .u64 (aboutN ps (ss : Int) : Int) 9223372036854775808)) HF6.out
          rw [or_mark HT.out] at this ⊢
          exact this
        clear f0 f1 f2 z2 HM6 HF6
        generalize w6.setCell ⟨w.heap.size + 1, 2, none⟩ (.int .u64 (bits .or .u64 (aboutN ps (ss : Int) : Int) 9223372036854775808)) = w7 at *
        obtain ⟨f0, f1, f2⟩ := cells3 HF7.out
        have HRX := hid (HM7.out.heap HRB.out (fun e => by have e' : w.heap.size = w.heap.size + 1 := e; omega))
        obtain ⟨r0, r1, r2⟩ := cells3 HRX.out
        have y0 := free_blk HRX.out 0
        have y1 := free_blk HRX.out 1
        have y2 := free_blk HRX.out 2
        have HMV := hid (HMK.out.trans hm)
        clear hm
        go_wp2
        refine bodyPost_ret (results_cell_row rfl _ _ w.heap.size 145 _ (0, 0) _ rfl (set3 HRX.out).1 Tryd.underlying145 rfl (by kernel_rfl)) rfl ?_
        exact ⟨by simp [footN, Ft.val, HMV.out], (HN1.out.trans HM7.out (fun q hq => .inr (by have : q = w.heap.size + 1 := hq; omega))).trans (set3 HRX.out).2 (fun q hq => .inr (by have : q = w.heap.size := hq; omega))⟩
      · have he1 : (d1 == d2) = false := by simpa using he
        have he2 : (d1 != d2) = true := by simpa using he
        go_quiet (fail)
        have HM6 : Hid (Mv (· = w.heap.size + 1) w1 (w5.drewN nq)) := nu_mv HM5.out (nu_drewN' w5 _)
        have HF6 : Hid ((w5.drewN nq).heap[w.heap.size + 1]? = some (.cells #[.int .u64 ((0 : Nat) : Int), .int .u64 ((2 ^ ss : Nat) : Int), .int .u64 (aboutN ps (ss : Int) : Int)] 145 (0, 0))) := (nu_drewN' w5 _).heap HF5.out id
        clear HM5 HF5 p1 p2 p3 q1 q2 q3
        generalize w5.drewN nq = w6 at *
        obtain ⟨f0, f1, f2⟩ := cells3 HF6.out
        have z2 := free_blk HF6.out 2
        go_upto_region 11 with fail
        have HM7 : Hid (Mv (· = w.heap.size + 1) w1 (w6.setCell ⟨w.heap.size + 1, 2, none⟩ (.int .u64 (bits .or .u64 (aboutN ps (ss : Int) : Int) 9223372036854775808)))) := HM6.out.trans (Mv.setCell w6 ⟨w.heap.size + 1, 2, none⟩ _) (fun q hq => .inl hq)
        have HF7 : Hid ((w6.setCell ⟨w.heap.size + 1, 2, none⟩ (.int .u64 (bits .or .u64 (aboutN ps (ss : Int) : Int) 9223372036854775808))).heap[w.heap.size + 1]? = some (.cells #[.int .u64 ((0 : Nat) : Int), .int .u64 ((2 ^ ss : Nat) : Int), .int .u64 ((aboutN ps (ss : Int) ||| 9223372036854775808 : Nat) : Int)] 145 (0, 0))) := by
          have := set3_at (i := 2) (u := .int .u64 (bits .or .u64 (aboutN ps (ss : Int) : Int) 9223372036854775808)) HF6.out
          rw [or_mark HT.out] at this ⊢
          exact this
        clear f0 f1 f2 z2 HM6 HF6
        generalize w6.setCell ⟨w.heap.size + 1, 2, none⟩ (.int .u64 (bits .or .u64 (aboutN ps (ss : Int) : Int) 9223372036854775808)) = w7 at *
        obtain ⟨f0, f1, f2⟩ := cells3 HF7.out
        have HRX := hid (HM7.out.heap HRB.out (fun e => by have e' : w.heap.size = w.heap.size + 1 := e; omega))
        obtain ⟨r0, r1, r2⟩ := cells3 HRX.out
        have y0 := free_blk HRX.out 0
        have y1 := free_blk HRX.out 1
        have y2 := free_blk HRX.out 2
        have HMV := hid (HMK.out.trans hm)
        clear hm
        go_wp2
        refine bodyPost_ret (results_cell_row rfl _ _ w.heap.size 145 _ (0, 0) _ rfl (set3 HRX.out).1 Tryd.underlying145 rfl (by kernel_rfl)) rfl ?_
        exact ⟨by simp [footN, Ft.val, HMV.out], (HN1.out.trans HM7.out (fun q hq => .inr (by have : q = w.heap.size + 1 := hq; omega))).trans (set3 HRX.out).2 (fun q hq => .inr (by have : q = w.heap.size := hq; omega))⟩
      · go_quiet (fail)
        have HM7 : Hid (Mv (· = w.heap.size + 1) w1 (w5.drewN nq)) := nu_mv HM5.out (nu_drewN' w5 _)
        have HF7 : Hid ((w5.drewN nq).heap[w.heap.size + 1]? = some (.cells #[.int .u64 ((0 : Nat) : Int), .int .u64 ((2 ^ ss : Nat) : Int), .int .u64 ((aboutN ps (ss : Int) : Nat) : Int)] 145 (0, 0))) := (nu_drewN' w5 _).heap HF5.out id
        clear HM5 HF5 p1 p2 p3 q1 q2 q3
        generalize w5.drewN nq = w7 at *
        obtain ⟨f0, f1, f2⟩ := cells3 HF7.out
        have HRX := hid (HM7.out.heap HRB.out (fun e => by have e' : w.heap.size = w.heap.size + 1 := e; omega))
        obtain ⟨r0, r1, r2⟩ := cells3 HRX.out
        have y0 := free_blk HRX.out 0
        have y1 := free_blk HRX.out 1
        have y2 := free_blk HRX.out 2
        have HMV := hid (HMK.out.trans hm)
        clear hm
        go_wp2
        refine bodyPost_ret (results_cell_row rfl _ _ w.heap.size 145 _ (0, 0) _ rfl (set3 HRX.out).1 Tryd.underlying145 rfl (by kernel_rfl)) rfl ?_
        exact ⟨by simp [footN, Ft.val, HMV.out], (HN1.out.trans HM7.out (fun q hq => .inr (by have : q = w.heap.size + 1 := hq; omega))).trans (set3 HRX.out).2 (fun q hq => .inr (by have : q = w.heap.size := hq; omega))⟩
  | true =>
    obtain ⟨kk, rfl, hkk, hkt⟩ := bit_pow (h1 rfl).1 (by have := (h1 rfl).2; omega)
    have c2 := cell_mv HN1.out HC2.out id
    obtain ⟨f0, f1, f2⟩ := cells3 HFB.out
    have z0 := free_blk HFB.out 0
    go_upto_region 5 with fail
    have HM2 : Hid (Mv (· = w.heap.size + 1) w1 (w1.setCell ⟨w.heap.size + 1, 0, none⟩ (.int .u64 (IntKind.u64.wrap (2 ^ kk))))) := Mv.setCell w1 ⟨w.heap.size + 1, 0, none⟩ _
    have HF2 : Hid ((w1.setCell ⟨w.heap.size + 1, 0, none⟩ (.int .u64 (IntKind.u64.wrap (2 ^ kk)))).heap[w.heap.size + 1]? = some (.cells #[.int .u64 ((2 ^ kk : Nat) : Int), .int .u64 ((0 : Nat) : Int), .int .u64 ((0 : Nat) : Int)] 145 (0, 0))) := by
      have := set3_at (i := 0) (u := .int .u64 (IntKind.u64.wrap (2 ^ kk))) HFB.out
      rw [wrap_bit hkk] at this ⊢
      exact this
    clear c1 c2 f0 f1 f2 z0
    generalize w1.setCell ⟨w.heap.size + 1, 0, none⟩ (.int .u64 (IntKind.u64.wrap (2 ^ kk))) = w2 at *
    have c4 := old_cell HN1.out HM2.out (Nat.le_succ _) HC4.out
    cases set with
    | false =>
      go_upto_region 8 with fail
      clear c4
      have HM4 := HM2
      have HF4 := HF2
      clear HM2 HF2
      obtain ⟨f0, f1, f2⟩ := cells3 HF4.out
      have c0 := old_cell HN1.out HM4.out (Nat.le_succ _) HC0.out
      go_wp2
      go_quiet (fail)
      go_upto_region 9 with fail
      have HM5 : Hid (Mv (· = w.heap.size + 1) w1 (w2.drewN nq)) := nu_mv HM4.out (nu_drewN' w2 nq)
      have HF5 : Hid ((w2.drewN nq).heap[w.heap.size + 1]? = some (.cells #[.int .u64 ((2 ^ kk : Nat) : Int), .int .u64 ((0 : Nat) : Int), .int .u64 ((0 : Nat) : Int)] 145 (0, 0))) := (nu_drewN' w2 nq).heap HF4.out id
      clear c0 f0 f1 f2 HM4 HF4
      generalize w2.drewN nq = w5 at *
      have p1 := old_cell HN1.out HM5.out (Nat.le_succ _) HXS.out.1
      have p2 := old_cell HN1.out HM5.out (Nat.le_succ _) HXS.out.2.1
      have p3 := old_cell HN1.out HM5.out (Nat.le_succ _) HXS.out.2.2
      have q1 := old_cell HN1.out HM5.out (Nat.le_succ _) HYS.out.1
      have q2 := old_cell HN1.out HM5.out (Nat.le_succ _) HYS.out.2.1
      have q3 := old_cell HN1.out HM5.out (Nat.le_succ _) HYS.out.2.2
      have HMK : Hid (markB x y = (x.en != y.en || (x.pr != y.pr || x.ac != y.ac))) := rfl
      generalize x.en = e1 at *
      generalize x.pr = g1 at *
      generalize x.ac = d1 at *
      generalize y.en = e2 at *
      generalize y.pr = g2 at *
      generalize y.ac = d2 at *
      have HT : Hid (0 < 18446744073709551616) := (show (0 : Nat) < 18446744073709551616 by decide)
      rcases mark_cases e1 e2 g1 g2 d1 d2 with ⟨he, hm⟩ | ⟨rfl, he, hm⟩ | ⟨rfl, rfl, he, hm⟩ | ⟨rfl, rfl, rfl, hm⟩
      · have he1 : (e1 == e2) = false := by simpa using he
        have he2 : (e1 != e2) = true := by simpa using he
        go_quiet (fail)
        have HM6 : Hid (Mv (· = w.heap.size + 1) w1 (w5.drewN nq)) := nu_mv HM5.out (nu_drewN' w5 _)
        have HF6 : Hid ((w5.drewN nq).heap[w.heap.size + 1]? = some (.cells #[.int .u64 ((2 ^ kk : Nat) : Int), .int .u64 ((0 : Nat) : Int), .int .u64 ((0 : Nat) : Int)] 145 (0, 0))) := (nu_drewN' w5 _).heap HF5.out id
        clear HM5 HF5 p1 p2 p3 q1 q2 q3
        generalize w5.drewN nq = w6 at *
        obtain ⟨f0, f1, f2⟩ := cells3 HF6.out
        have z2 := free_blk HF6.out 2
        go_upto_region 11 with fail
        have HM7 : Hid (Mv (· = w.heap.size + 1) w1 (w6.setCell ⟨w.heap.size + 1, 2, none⟩ (.int .u64 (bits .or .u64 ((0 : Nat) : Int) 9223372036854775808)))) := HM6.out.trans (Mv.setCell w6 ⟨w.heap.size + 1, 2, none⟩ _) (fun q hq => .inl hq)
        have HF7 : Hid ((w6.setCell ⟨w.heap.size + 1, 2, none⟩ (.int .u64 (bits .or .u64 ((0 : Nat) : Int) 9223372036854775808))).heap[w.heap.size + 1]? = some (.cells #[.int .u64 ((2 ^ kk : Nat) : Int), .int .u64 ((0 : Nat) : Int), .int .u64 ((0 ||| 9223372036854775808 : Nat) : Int)] 145 (0, 0))) := by
          have := set3_at (i := 2) (u := .int .u64 (bits .or .u64 ((0 : Nat) : Int) 9223372036854775808)) HF6.out
          rw [or_mark HT.out] at this ⊢
          exact this
        clear f0 f1 f2 z2 HM6 HF6
        generalize w6.setCell ⟨w.heap.size + 1, 2, none⟩ (.int .u64 (bits .or .u64 ((0 : Nat) : Int) 9223372036854775808)) = w7 at *
        obtain ⟨f0, f1, f2⟩ := cells3 HF7.out
        have HRX := hid (HM7.out.heap HRB.out (fun e => by have e' : w.heap.size = w.heap.size + 1 := e; omega))
        obtain ⟨r0, r1, r2⟩ := cells3 HRX.out
        have y0 := free_blk HRX.out 0
        have y1 := free_blk HRX.out 1
        have y2 := free_blk HRX.out 2
        have HMV := hid (HMK.out.trans hm)
        clear hm
        go_wp2
        refine bodyPost_ret (results_cell_row rfl _ _ w.heap.size 145 _ (0, 0) _ rfl (set3 HRX.out).1 Tryd.underlying145 rfl (by kernel_rfl)) rfl ?_
        exact ⟨by simp [footN, Ft.val, HMV.out], (HN1.out.trans HM7.out (fun q hq => .inr (by have : q = w.heap.size + 1 := hq; omega))).trans (set3 HRX.out).2 (fun q hq => .inr (by have : q = w.heap.size := hq; omega))⟩
      · have he1 : (g1 == g2) = false := by simpa using he
        have he2 : (g1 != g2) = true := by simpa using he
        go_quiet (fail)
        have HM6 : Hid (Mv (· = w.heap.size + 1) w1 (w5.drewN nq)) := nu_mv HM5.out (nu_drewN' w5 _)
        have HF6 : Hid ((w5.drewN nq).heap[w.heap.size + 1]? = some (.cells #[.int .u64 ((2 ^ kk : Nat) : Int), .int .u64 ((0 : Nat) : Int), .int .u64 ((0 : Nat) : Int)] 145 (0, 0))) := (nu_drewN' w5 _).heap HF5.out id
        clear HM5 HF5 p1 p2 p3 q1 q2 q3
        generalize w5.drewN nq = w6 at *
        obtain ⟨f0, f1, f2⟩ := cells3 HF6.out
        have z2 := free_blk HF6.out 2
        go_upto_region 11 with fail
        have HM7 : Hid (Mv (· = w.heap.size + 1) w1 (w6.setCell ⟨w.heap.size + 1, 2, none⟩ (.int .u64 (bits .or .u64 ((0 : Nat) : Int) 9223372036854775808)))) := HM6.out.trans (Mv.setCell w6 ⟨w.heap.size + 1, 2, none⟩ _) (fun q hq => .inl hq)
        have HF7 : Hid ((w6.setCell ⟨w.heap.size + 1, 2, none⟩ (.int .u64 (bits .or .u64 ((0 : Nat) : Int) 9223372036854775808))).heap[w.heap.size + 1]? = some (.cells #[.int .u64 ((2 ^ kk : Nat) : Int), .int .u64 ((0 : Nat) : Int), .int .u64 ((0 ||| 9223372036854775808 : Nat) : Int)] 145 (0, 0))) := by
          have := set3_at (i := 2) (u := .int .u64 (bits .or .u64 ((0 : Nat) : Int) 9223372036854775808)) HF6.out
          rw [or_mark HT.out] at this ⊢
          exact this
        clear f0 f1 f2 z2 HM6 HF6
        generalize w6.setCell ⟨w.heap.size + 1, 2, none⟩ (.int .u64 (bits .or .u64 ((0 : Nat) : Int) 9223372036854775808)) = w7 at *
        obtain ⟨f0, f1, f2⟩ := cells3 HF7.out
        have HRX := hid (HM7.out.heap HRB.out (fun e => by have e' : w.heap.size = w.heap.size + 1 := e; omega))
        obtain ⟨r0, r1, r2⟩ := cells3 HRX.out
        have y0 := free_blk HRX.out 0
        have y1 := free_blk HRX.out 1
        have y2 := free_blk HRX.out 2
        have HMV := hid (HMK.out.trans hm)
        clear hm
        go_wp2
        refine bodyPost_ret (results_cell_row rfl _ _ w.heap.size 145 _ (0, 0) _ rfl (set3 HRX.out).1 Tryd.underlying145 rfl (by kernel_rfl)) rfl ?_
        exact ⟨by simp [footN, Ft.val, HMV.out], (HN1.out.trans HM7.out (fun q hq => .inr (by have : q = w.heap.size + 1 := hq; omega))).trans (set3 HRX.out).2 (fun q hq => .inr (by have : q = w.heap.size := hq; omega))⟩
      · have he1 : (d1 == d2) = false := by simpa using he
        have he2 : (d1 != d2) = true := by simpa using he
        go_quiet (fail)
        have HM6 : Hid (Mv (· = w.heap.size + 1) w1 (w5.drewN nq)) := nu_mv HM5.out (nu_drewN' w5 _)
        have HF6 : Hid ((w5.drewN nq).heap[w.heap.size + 1]? = some (.cells #[.int .u64 ((2 ^ kk : Nat) : Int), .int .u64 ((0 : Nat) : Int), .int .u64 ((0 : Nat) : Int)] 145 (0, 0))) := (nu_drewN' w5 _).heap HF5.out id
        clear HM5 HF5 p1 p2 p3 q1 q2 q3
        generalize w5.drewN nq = w6 at *
        obtain ⟨f0, f1, f2⟩ := cells3 HF6.out
        have z2 := free_blk HF6.out 2
        go_upto_region 11 with fail
        have HM7 : Hid (Mv (· = w.heap.size + 1) w1 (w6.setCell ⟨w.heap.size + 1, 2, none⟩ (.int .u64 (bits .or .u64 ((0 : Nat) : Int) 9223372036854775808)))) := HM6.out.trans (Mv.setCell w6 ⟨w.heap.size + 1, 2, none⟩ _) (fun q hq => .inl hq)
        have HF7 : Hid ((w6.setCell ⟨w.heap.size + 1, 2, none⟩ (.int .u64 (bits .or .u64 ((0 : Nat) : Int) 9223372036854775808))).heap[w.heap.size + 1]? = some (.cells #[.int .u64 ((2 ^ kk : Nat) : Int), .int .u64 ((0 : Nat) : Int), .int .u64 ((0 ||| 9223372036854775808 : Nat) : Int)] 145 (0, 0))) := by
          have := set3_at (i := 2) (u := .int .u64 (bits .or .u64 ((0 : Nat) : Int) 9223372036854775808)) HF6.out
          rw [or_mark HT.out] at this ⊢
          exact this
        clear f0 f1 f2 z2 HM6 HF6
        generalize w6.setCell ⟨w.heap.size + 1, 2, none⟩ (.int .u64 (bits .or .u64 ((0 : Nat) : Int) 9223372036854775808)) = w7 at *
        obtain ⟨f0, f1, f2⟩ := cells3 HF7.out
        have HRX := hid (HM7.out.heap HRB.out (fun e => by have e' : w.heap.size = w.heap.size + 1 := e; omega))
        obtain ⟨r0, r1, r2⟩ := cells3 HRX.out
        have y0 := free_blk HRX.out 0
        have y1 := free_blk HRX.out 1
        have y2 := free_blk HRX.out 2
        have HMV := hid (HMK.out.trans hm)
        clear hm
        go_wp2
        refine bodyPost_ret (results_cell_row rfl _ _ w.heap.size 145 _ (0, 0) _ rfl (set3 HRX.out).1 Tryd.underlying145 rfl (by kernel_rfl)) rfl ?_
        exact ⟨by simp [footN, Ft.val, HMV.out], (HN1.out.trans HM7.out (fun q hq => .inr (by have : q = w.heap.size + 1 := hq; omega))).trans (set3 HRX.out).2 (fun q hq => .inr (by have : q = w.heap.size := hq; omega))⟩
      · go_quiet (fail)
        have HM7 : Hid (Mv (· = w.heap.size + 1) w1 (w5.drewN nq)) := nu_mv HM5.out (nu_drewN' w5 _)
        have HF7 : Hid ((w5.drewN nq).heap[w.heap.size + 1]? = some (.cells #[.int .u64 ((2 ^ kk : Nat) : Int), .int .u64 ((0 : Nat) : Int), .int .u64 ((0 : Nat) : Int)] 145 (0, 0))) := (nu_drewN' w5 _).heap HF5.out id
        clear HM5 HF5 p1 p2 p3 q1 q2 q3
        generalize w5.drewN nq = w7 at *
        obtain ⟨f0, f1, f2⟩ := cells3 HF7.out
        have HRX := hid (HM7.out.heap HRB.out (fun e => by have e' : w.heap.size = w.heap.size + 1 := e; omega))
        obtain ⟨r0, r1, r2⟩ := cells3 HRX.out
        have y0 := free_blk HRX.out 0
        have y1 := free_blk HRX.out 1
        have y2 := free_blk HRX.out 2
        have HMV := hid (HMK.out.trans hm)
        clear hm
        go_wp2
        refine bodyPost_ret (results_cell_row rfl _ _ w.heap.size 145 _ (0, 0) _ rfl (set3 HRX.out).1 Tryd.underlying145 rfl (by kernel_rfl)) rfl ?_
        exact ⟨by simp [footN, Ft.val, HMV.out], (HN1.out.trans HM7.out (fun q hq => .inr (by have : q = w.heap.size + 1 := hq; omega))).trans (set3 HRX.out).2 (fun q hq => .inr (by have : q = w.heap.size := hq; omega))⟩
    | true =>
      obtain ⟨ss, rfl, hss, hst⟩ := bit_pow (h2 rfl).1.1 (by have := (h2 rfl).1.2; omega)
      have c5 := old_cell HN1.out HM2.out (Nat.le_succ _) HC5.out
      obtain ⟨f0, f1, f2⟩ := cells3 HF2.out
      have z1 := free_blk HF2.out 1
      go_upto_region 7 with fail
      have HM3 : Hid (Mv (· = w.heap.size + 1) w1 (w2.setCell ⟨w.heap.size + 1, 1, none⟩ (.int .u64 (IntKind.u64.wrap (2 ^ ss))))) := HM2.out.trans (Mv.setCell w2 ⟨w.heap.size + 1, 1, none⟩ _) (fun q hq => .inl hq)
      have HF3 : Hid ((w2.setCell ⟨w.heap.size + 1, 1, none⟩ (.int .u64 (IntKind.u64.wrap (2 ^ ss)))).heap[w.heap.size + 1]? = some (.cells #[.int .u64 ((2 ^ kk : Nat) : Int), .int .u64 ((2 ^ ss : Nat) : Int), .int .u64 ((0 : Nat) : Int)] 145 (0, 0))) := by
        have := set3_at (i := 1) (u := .int .u64 (IntKind.u64.wrap (2 ^ ss))) HF2.out
        rw [wrap_bit hss] at this ⊢
        exact this
      clear c4 c5 f0 f1 f2 z1 HM2 HF2
      generalize w2.setCell ⟨w.heap.size + 1, 1, none⟩ (.int .u64 (IntKind.u64.wrap (2 ^ ss))) = w3 at *
      have c5 := old_cell HN1.out HM3.out (Nat.le_succ _) HC5.out
      have HR3 : Hid (RowV B 2 (TRAt w3) (.slice ra ps.length rc) ps) := HR.out.mono (Nat.le_refl _) (fun _ _ _ _ h => ⟨old_cell HN1.out HM3.out (Nat.le_succ _) h.1, old_cell HN1.out HM3.out (Nat.le_succ _) h.2⟩)
      go_upto_region 8 with (go_at_call 68; refine (about_any _ B ra rc ps HR3.out HPL.out _).mono ?_; rintro e w3b ⟨rfl, hn3⟩; have HN3 := hid hn3; have HF3b := hid (hn3.heap HF3.out id); obtain ⟨f0, f1, f2⟩ := cells3 HF3b.out; have z2 := free_blk HF3b.out 2; clear hn3)
      have HM4 : Hid (Mv (· = w.heap.size + 1) w1 (w3b.setCell ⟨w.heap.size + 1, 2, none⟩ (.int .u64 (aboutN ps (ss : Int) : Int)))) := (nu_mv HM3.out HN3.out).trans (Mv.setCell w3b ⟨w.heap.size + 1, 2, none⟩ _) (fun q hq => .inl hq)
      have HF4 : Hid ((w3b.setCell ⟨w.heap.size + 1, 2, none⟩ (.int .u64 (aboutN ps (ss : Int) : Int))).heap[w.heap.size + 1]? = some (.cells #[.int .u64 ((2 ^ kk : Nat) : Int), .int .u64 ((2 ^ ss : Nat) : Int), .int .u64 (aboutN ps (ss : Int) : Int)] 145 (0, 0))) := set3_at (i := 2) (u := .int .u64 (aboutN ps (ss : Int) : Int)) HF3b.out
      clear c5 f0 f1 f2 z2 HM3 HF3 HF3b HN3 HR3
      generalize w3b.setCell ⟨w.heap.size + 1, 2, none⟩ (.int .u64 (aboutN ps (ss : Int) : Int)) = w4 at *
      obtain ⟨f0, f1, f2⟩ := cells3 HF4.out
      have c0 := old_cell HN1.out HM4.out (Nat.le_succ _) HC0.out
      go_wp2
      go_quiet (fail)
      go_upto_region 9 with fail
      have HM5 : Hid (Mv (· = w.heap.size + 1) w1 (w4.drewN nq)) := nu_mv HM4.out (nu_drewN' w4 nq)
      have HF5 : Hid ((w4.drewN nq).heap[w.heap.size + 1]? = some (.cells #[.int .u64 ((2 ^ kk : Nat) : Int), .int .u64 ((2 ^ ss : Nat) : Int), .int .u64 (aboutN ps (ss : Int) : Int)] 145 (0, 0))) := (nu_drewN' w4 nq).heap HF4.out id
      clear c0 f0 f1 f2 HM4 HF4
      generalize w4.drewN nq = w5 at *
      have p1 := old_cell HN1.out HM5.out (Nat.le_succ _) HXS.out.1
      have p2 := old_cell HN1.out HM5.out (Nat.le_succ _) HXS.out.2.1
      have p3 := old_cell HN1.out HM5.out (Nat.le_succ _) HXS.out.2.2
      have q1 := old_cell HN1.out HM5.out (Nat.le_succ _) HYS.out.1
      have q2 := old_cell HN1.out HM5.out (Nat.le_succ _) HYS.out.2.1
      have q3 := old_cell HN1.out HM5.out (Nat.le_succ _) HYS.out.2.2
      have HMK : Hid (markB x y = (x.en != y.en || (x.pr != y.pr || x.ac != y.ac))) := rfl
      generalize x.en = e1 at *
      generalize x.pr = g1 at *
      generalize x.ac = d1 at *
      generalize y.en = e2 at *
      generalize y.pr = g2 at *
      generalize y.ac = d2 at *
      have HT : Hid (aboutN ps (ss : Int) < 18446744073709551616) := about_lt HPL.out _
      rcases mark_cases e1 e2 g1 g2 d1 d2 with ⟨he, hm⟩ | ⟨rfl, he, hm⟩ | ⟨rfl, rfl, he, hm⟩ | ⟨rfl, rfl, rfl, hm⟩
      · have he1 : (e1 == e2) = false := by simpa using he
        have he2 : (e1 != e2) = true := by simpa using he
        go_quiet (fail)
        have HM6 : Hid (Mv (· = w.heap.size + 1) w1 (w5.drewN nq)) := nu_mv HM5.out (nu_drewN' w5 _)
        have HF6 : Hid ((w5.drewN nq).heap[w.heap.size + 1]? = some (.cells #[.int .u64 ((2 ^ kk : Nat) : Int), .int .u64 ((2 ^ ss : Nat) : Int), .int .u64 (aboutN ps (ss : Int) : Int)] 145 (0, 0))) := (nu_drewN' w5 _).heap HF5.out id
        clear HM5 HF5 p1 p2 p3 q1 q2 q3
        generalize w5.drewN nq = w6 at *
        obtain ⟨f0, f1, f2⟩ := cells3 HF6.out
        have z2 := free_blk HF6.out 2
        go_upto_region 11 with fail
        have HM7 : Hid (Mv (· = w.heap.size + 1) w1 (w6.setCell ⟨w.heap.size + 1, 2, none⟩ (.int .u64 (bits .or .u64 (aboutN ps (ss : Int) : Int) 9223372036854775808)))) := HM6.out.trans (Mv.setCell w6 ⟨w.heap.size + 1, 2, none⟩ _) (fun q hq => .inl hq)
        have HF7 : Hid ((w6.setCell ⟨w.heap.size + 1, 2, none⟩ (.int .u64 (bits .or .u64 (aboutN ps (ss : Int) : Int) 9223372036854775808))).heap[w.heap.size + 1]? = some (.cells #[.int .u64 ((2 ^ kk : Nat) : Int), .int .u64 ((2 ^ ss : Nat) : Int), .int .u64 ((aboutN ps (ss : Int) ||| 9223372036854775808 : Nat) : Int)] 145 (0, 0))) := by
          have := set3_at (i := 2) (u := .int .u64 (bits .or .u64 (aboutN ps (ss : Int) : Int) 9223372036854775808)) HF6.out
          rw [or_mark HT.out] at this ⊢
          exact this
        clear f0 f1 f2 z2 HM6 HF6
        generalize w6.setCell ⟨w.heap.size + 1, 2, none⟩ (.int .u64 (bits .or .u64 (aboutN ps (ss : Int) : Int) 9223372036854775808)) = w7 at *
        obtain ⟨f0, f1, f2⟩ := cells3 HF7.out
        have HRX := hid (HM7.out.heap HRB.out (fun e => by have e' : w.heap.size = w.heap.size + 1 := e; omega))
        obtain ⟨r0, r1, r2⟩ := cells3 HRX.out
        have y0 := free_blk HRX.out 0
        have y1 := free_blk HRX.out 1
        have y2 := free_blk HRX.out 2
        have HMV := hid (HMK.out.trans hm)
        clear hm
        go_wp2
        refine bodyPost_ret (results_cell_row rfl _ _ w.heap.size 145 _ (0, 0) _ rfl (set3 HRX.out).1 Tryd.underlying145 rfl (by kernel_rfl)) rfl ?_
        exact ⟨by simp [footN, Ft.val, HMV.out], (HN1.out.trans HM7.out (fun q hq => .inr (by have : q = w.heap.size + 1 := hq; omega))).trans (set3 HRX.out).2 (fun q hq => .inr (by have : q = w.heap.size := hq; omega))⟩
      · have he1 : (g1 == g2) = false := by simpa using he
        have he2 : (g1 != g2) = true := by simpa using he
        go_quiet (fail)
        have HM6 : Hid (Mv (· = w.heap.size + 1) w1 (w5.drewN nq)) := nu_mv HM5.out (nu_drewN' w5 _)
        have HF6 : Hid ((w5.drewN nq).heap[w.heap.size + 1]? = some (.cells #[.int .u64 ((2 ^ kk : Nat) : Int), .int .u64 ((2 ^ ss : Nat) : Int), .int .u64 (aboutN ps (ss : Int) : Int)] 145 (0, 0))) := (nu_drewN' w5 _).heap HF5.out id
        clear HM5 HF5 p1 p2 p3 q1 q2 q3
        generalize w5.drewN nq = w6 at *
        obtain ⟨f0, f1, f2⟩ := cells3 HF6.out
        have z2 := free_blk HF6.out 2
        go_upto_region 11 with fail
        have HM7 : Hid (Mv (· = w.heap.size + 1) w1 (w6.setCell ⟨w.heap.size + 1, 2, none⟩ (.int .u64 (bits .or .u64 (aboutN ps (ss : Int) : Int) 9223372036854775808)))) := HM6.out.trans (Mv.setCell w6 ⟨w.heap.size + 1, 2, none⟩ _) (fun q hq => .inl hq)
        have HF7 : Hid ((w6.setCell ⟨w.heap.size + 1, 2, none⟩ (.int .u64 (bits .or .u64 (aboutN ps (ss : Int) : Int) 9223372036854775808))).heap[w.heap.size + 1]? = some (.cells #[.int .u64 ((2 ^ kk : Nat) : Int), .int .u64 ((2 ^ ss : Nat) : Int), .int .u64 ((aboutN ps (ss : Int) ||| 9223372036854775808 : Nat) : Int)] 145 (0, 0))) := by
          have := set3_at (i := 2) (u := .int .u64 (bits .or .u64 (aboutN ps (ss : Int) : Int) 9223372036854775808)) HF6.out
          rw [or_mark HT.out] at this ⊢
          exact this
        clear f0 f1 f2 z2 HM6 HF6
        generalize w6.setCell ⟨w.heap.size + 1, 2, none⟩ (.int .u64 (bits .or .u64 (aboutN ps (ss : Int) : Int) 9223372036854775808)) = w7 at *
        obtain ⟨f0, f1, f2⟩ := cells3 HF7.out
        have HRX := hid (HM7.out.heap HRB.out (fun e => by have e' : w.heap.size = w.heap.size + 1 := e; omega))
        obtain ⟨r0, r1, r2⟩ := cells3 HRX.out
        have y0 := free_blk HRX.out 0
        have y1 := free_blk HRX.out 1
        have y2 := free_blk HRX.out 2
        have HMV := hid (HMK.out.trans hm)
        clear hm
        go_wp2
        refine bodyPost_ret (results_cell_row rfl _ _ w.heap.size 145 _ (0, 0) _ rfl (set3 HRX.out).1 Tryd.underlying145 rfl (by kernel_rfl)) rfl ?_
        exact ⟨by simp [footN, Ft.val, HMV.out], (HN1.out.trans HM7.out (fun q hq => .inr (by have : q = w.heap.size + 1 := hq; omega))).trans (set3 HRX.out).2 (fun q hq => .inr (by have : q = w.heap.size := hq; omega))⟩
      · have he1 : (d1 == d2) = false := by simpa using he
        have he2 : (d1 != d2) = true := by simpa using he
        go_quiet (fail)
        have HM6 : Hid (Mv (· = w.heap.size + 1) w1 (w5.drewN nq)) := nu_mv HM5.out (nu_drewN' w5 _)
        have HF6 : Hid ((w5.drewN nq).heap[w.heap.size + 1]? = some (.cells #[.int .u64 ((2 ^ kk : Nat) : Int), .int .u64 ((2 ^ ss : Nat) : Int), .int .u64 (aboutN ps (ss : Int) : Int)] 145 (0, 0))) := (nu_drewN' w5 _).heap HF5.out id
        clear HM5 HF5 p1 p2 p3 q1 q2 q3
        generalize w5.drewN nq = w6 at *
        obtain ⟨f0, f1, f2⟩ := cells3 HF6.out
        have z2 := free_blk HF6.out 2
        go_upto_region 11 with fail
        have HM7 : Hid (Mv (· = w.heap.size + 1) w1 (w6.setCell ⟨w.heap.size + 1, 2, none⟩ (.int .u64 (bits .or .u64 (aboutN ps (ss : Int) : Int) 9223372036854775808)))) := HM6.out.trans (Mv.setCell w6 ⟨w.heap.size + 1, 2, none⟩ _) (fun q hq => .inl hq)
        have HF7 : Hid ((w6.setCell ⟨w.heap.size + 1, 2, none⟩ (.int .u64 (bits .or .u64 (aboutN ps (ss : Int) : Int) 9223372036854775808))).heap[w.heap.size + 1]? = some (.cells #[.int .u64 ((2 ^ kk : Nat) : Int), .int .u64 ((2 ^ ss : Nat) : Int), .int .u64 ((aboutN ps (ss : Int) ||| 9223372036854775808 : Nat) : Int)] 145 (0, 0))) := by
          have := set3_at (i := 2) (u := .int .u64 (bits .or .u64 (aboutN ps (ss : Int) : Int) 9223372036854775808)) HF6.out
          rw [or_mark HT.out] at this ⊢
          exact this
        clear f0 f1 f2 z2 HM6 HF6
        generalize w6.setCell ⟨w.heap.size + 1, 2, none⟩ (.int .u64 (bits .or .u64 (aboutN ps (ss : Int) : Int) 9223372036854775808)) = w7 at *
        obtain ⟨f0, f1, f2⟩ := cells3 HF7.out
        have HRX := hid (HM7.out.heap HRB.out (fun e => by have e' : w.heap.size = w.heap.size + 1 := e; omega))
        obtain ⟨r0, r1, r2⟩ := cells3 HRX.out
        have y0 := free_blk HRX.out 0
        have y1 := free_blk HRX.out 1
        have y2 := free_blk HRX.out 2
        have HMV := hid (HMK.out.trans hm)
        clear hm
        go_wp2
        refine bodyPost_ret (results_cell_row rfl _ _ w.heap.size 145 _ (0, 0) _ rfl (set3 HRX.out).1 Tryd.underlying145 rfl (by kernel_rfl)) rfl ?_
        exact ⟨by simp [footN, Ft.val, HMV.out], (HN1.out.trans HM7.out (fun q hq => .inr (by have : q = w.heap.size + 1 := hq; omega))).trans (set3 HRX.out).2 (fun q hq => .inr (by have : q = w.heap.size := hq; omega))⟩
      · go_quiet (fail)
        have HM7 : Hid (Mv (· = w.heap.size + 1) w1 (w5.drewN nq)) := nu_mv HM5.out (nu_drewN' w5 _)
        have HF7 : Hid ((w5.drewN nq).heap[w.heap.size + 1]? = some (.cells #[.int .u64 ((2 ^ kk : Nat) : Int), .int .u64 ((2 ^ ss : Nat) : Int), .int .u64 ((aboutN ps (ss : Int) : Nat) : Int)] 145 (0, 0))) := (nu_drewN' w5 _).heap HF5.out id
        clear HM5 HF5 p1 p2 p3 q1 q2 q3
        generalize w5.drewN nq = w7 at *
        obtain ⟨f0, f1, f2⟩ := cells3 HF7.out
        have HRX := hid (HM7.out.heap HRB.out (fun e => by have e' : w.heap.size = w.heap.size + 1 := e; omega))
        obtain ⟨r0, r1, r2⟩ := cells3 HRX.out
        have y0 := free_blk HRX.out 0
        have y1 := free_blk HRX.out 1
        have y2 := free_blk HRX.out 2
        have HMV := hid (HMK.out.trans hm)
        clear hm
        go_wp2
        refine bodyPost_ret (results_cell_row rfl _ _ w.heap.size 145 _ (0, 0) _ rfl (set3 HRX.out).1 Tryd.underlying145 rfl (by kernel_rfl)) rfl ?_
        exact ⟨by simp [footN, Ft.val, HMV.out], (HN1.out.trans HM7.out (fun q hq => .inr (by have : q = w.heap.size + 1 := hq; omega))).trans (set3 HRX.out).2 (fun q hq => .inr (by have : q = w.heap.size := hq; omega))⟩

end Go.Proofs.YtiinmaedmkgfoaaDoor
