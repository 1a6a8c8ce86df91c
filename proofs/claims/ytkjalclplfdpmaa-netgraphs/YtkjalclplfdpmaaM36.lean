/-
  GWrite, GList, GNums, GSmall, GLk, GSet.
-/
import Derived.Handy
import Derived.Laws.CopyOwn
import Derived.Laws.MakeOwn
import Derived.Test.YtkjalclplfdpmaaM13
import Derived.Test.YtkjalclplfdpmaaM18
import Derived.Test.YtkjalclplfdpmaaM27
import Derived.Test.YtkjalclplfdpmaaM31
import Derived.Test.YtkjalclplfdpmaaM33
import Derived.Test.YtkjalclplfdpmaaM35
/-
  What may be written into, and the statement's own write, list and pick.
-/
set_option linter.unusedVariables false
set_option linter.unusedSimpArgs false
namespace Go.Proofs.Ytkjalclplfdpmaa
open Go.RowKit

/-- Numbers in a row that may be written, in a block from H on and ahead of B. -/
structure WrI (w : World) (H B : Nat) (ao : Option Addr) (len cap : Nat) : Prop where
  len : len ≤ cap
  lim : (cap : Int) ≤ 9223372036854775807
  row : cap = 0 ∨ ∃ g cs, ao = some ⟨g, 0, none⟩ ∧ H ≤ g ∧ g < B ∧ w.heap[g]? = some (.cells cs 3 (0, 0)) ∧ cs.size = cap

/-- Only blocks of numbers, from H on and ahead of B, have turned; none has another size. -/
structure ShI (H B : Nat) (w w' : World) : Prop where
  mv : Mv (fun b => H ≤ b ∧ b < B ∧ ∃ cs, w.heap[b]? = some (.cells cs 3 (0, 0))) w w'
  sh : ∀ (g : Nat) (cs : Array Value), w.heap[g]? = some (.cells cs 3 (0, 0)) → ∃ cs', w'.heap[g]? = some (.cells cs' 3 (0, 0)) ∧ cs'.size = cs.size
theorem ShI.refl (H B : Nat) (w : World) : ShI H B w w := ⟨Mv.refl _ _, fun g cs h => ⟨cs, h, rfl⟩⟩
theorem ShI.nu {H B : Nat} {w w' : World} (h : Nu w w') : ShI H B w w' := ⟨h.mono (fun _ h => h.elim), fun g cs hg => ⟨cs, h.heap hg id, rfl⟩⟩
theorem ShI.trans {H B : Nat} {a b c : World} (h : ShI H B a b) (k : ShI H B b c) : ShI H B a c := by
  refine ⟨h.mv.trans k.mv (fun x hx => ?_), fun g cs hg => ?_⟩
  · obtain ⟨h1, h2, cs, hcs⟩ := hx
    rcases Nat.lt_or_ge x a.heap.size with hlt | hge
    · by_cases hS : ∃ cs, a.heap[x]? = some (.cells cs 3 (0, 0))
      · exact .inl ⟨h1, h2, hS⟩
      · have := h.mv.block x hlt (fun hs => hS hs.2.2)
        exact absurd ⟨cs, this.symm.trans hcs⟩ hS
    · exact .inr hge
  · obtain ⟨cs1, h1, e1⟩ := h.sh g cs hg
    obtain ⟨cs2, h2, e2⟩ := k.sh g cs1 h1
    exact ⟨cs2, h2, e2.trans e1⟩
theorem WrI.sh {w w' : World} {H B : Nat} {ao : Option Addr} {len cap : Nat} (h : WrI w H B ao len cap) (k : ShI H B w w') : WrI w' H B ao len cap := by
  refine ⟨h.len, h.lim, h.row.imp id fun ⟨g, cs, ha, h1, h2, hc, hs⟩ => ?_⟩
  obtain ⟨cs', h3, h4⟩ := k.sh g cs hc
  exact ⟨g, cs', ha, h1, h2, h3, h4.trans hs⟩
theorem ShI.mono {H B H' B' : Nat} {a b : World} (h : ShI H B a b) (h1 : H' ≤ H) (h2 : B ≤ B') : ShI H' B' a b :=
  ⟨h.mv.mono (fun x hx => .inl ⟨by omega, by omega, hx.2.2⟩), h.sh⟩
theorem WrI.mono {w : World} {H B H' B' : Nat} {ao : Option Addr} {len cap : Nat} (h : WrI w H B ao len cap) (h1 : H' ≤ H) (h2 : B ≤ B') : WrI w H' B' ao len cap :=
  ⟨h.len, h.lim, h.row.imp id fun ⟨g, cs, ha, a1, a2, r⟩ => ⟨g, cs, ha, by omega, by omega, r⟩⟩
theorem OwnI.wr {w : World} {H B : Nat} {ao : Option Addr} {cap : Nat} {xs : List Int} (h : OwnI w H ao cap xs) (hB : w.heap.size ≤ B) : WrI w H B ao xs.length cap :=
  ⟨h.len, h.lim, h.row.imp id fun ⟨g, cs, ha, h1, hc, hs, _⟩ => ⟨g, cs, ha, h1, Nat.lt_of_lt_of_le (Array.getElem?_eq_some_iff.1 hc).1 hB, hc, hs⟩⟩
theorem ShI.set {H B : Nat} {w : World} {g i : Nat} {cs : Array Value} (hc : w.heap[g]? = some (.cells cs 3 (0, 0))) (h1 : H ≤ g) (h2 : g < B) (u : Value) : ShI H B w (w.setCell ⟨g, i, none⟩ u) := by
  refine ⟨(Mv.setCell w ⟨g, i, none⟩ u).mono (fun x hx => .inl ?_), fun k cs' hk => ?_⟩
  · simp only at hx
    subst hx
    exact ⟨h1, h2, cs, hc⟩
  · by_cases hg : k = g
    · subst hg
      rw [hc] at hk
      cases hk
      exact ⟨_, setCell_blk hc, by simp⟩
    · exact ⟨cs', (Mv.setCell w ⟨g, i, none⟩ u).heap hk (by simpa using hg), rfl⟩

set_option maxHeartbeats 1000000 in
set_option maxRecDepth 20000 in
theorem write_any (w : World) (H B : Nat) (ao : Option Addr) (len cap : Nat) (h : WrI w H B ao len cap) : Calls Try.prog 22 #[.slice ao len cap] w fun e w' => e = .returned (.tuple #[]) ∧ ShI H B w w' := by
  have hlen := h.len
  have hlim := h.lim
  have HW := hid h
  clear h
  have hlc : (len : Int) ≤ (cap : Int) := by omega
  go_enter Try.func22, Try.ntmps22
  go_wp2_with fail
  go_loopw [2] (fun iv wr => ∃ (i : Nat), i ≤ cap ∧ iv = .int .i64 (i : Int) ∧ Hid (ShI H B w wr)) (fun iv _ => cap - (intOf iv).toNat)
  case atStart => exact ⟨0, Nat.zero_le _, rfl, ShI.refl _ _ _⟩
  case round =>
    obtain ⟨i, hi, rfl, HS⟩ := hrel
    rcases Nat.lt_or_ge i cap with hlt | hge
    · have hlt' : (i : Int) < (cap : Int) := by omega
      have hW := HW.out.sh HS.out
      rcases hW.row with h0 | ⟨g, cs, rfl, h1, h2, hc, hs⟩
      · omega
      obtain ⟨u0, q0⟩ : ∃ u0, wr.cell? ⟨g, i, none⟩ = some u0 := ⟨cs[i], by rw [cell_blk hc i, Array.getElem?_eq_getElem (by omega)]⟩
      have z0 := free_blk hc i
      have HN := hid (fun u => HS.out.trans (ShI.set (i := i) hc h1 h2 u))
      have HLT := hid hlt
      clear hW hc hs h1 h2 hlt
      go_wp2_with fail
      go_roundw
      case rel => exact ⟨i + 1, HLT.out, by go_num, HN.out _⟩
      case measure => have := HLT.out; simp [intOf]; omega
    · obtain rfl : i = cap := by omega
      go_wp2_with fail
      go_returns
      exact ⟨rfl, HS.out⟩

theorem pick_any (c n : Int) (w : World) (hc : I64 c) (h0 : 0 < n) (hn : n ≤ 100000000) : Calls Try.prog 24 #[.int .i64 c, .int .i64 n] w fun e w' => (∃ k : Nat, e = .returned (.int .i64 (k : Int)) ∧ (k : Int) < n) ∧ w' = w := by
  obtain ⟨hl, hu⟩ := hc
  have hn0 : ¬ n = 0 := by omega
  have hw : ∀ x : Int, 0 ≤ x → ∃ k : Nat, x.tmod n = (k : Int) ∧ x % n = (k : Int) ∧ (k : Int) < n := fun x h1 => by
    have h3 : x.tmod n = x % n := Int.tmod_eq_emod_of_nonneg h1
    have h4 := Int.emod_nonneg x hn0
    have h5 := Int.emod_lt_of_pos x h0
    exact ⟨(x % n).toNat, by rw [h3]; omega, by omega, by omega⟩
  by_cases h : c < 0
  · obtain ⟨k, hk, hk2, hkn⟩ := hw (-(c + 1)) (by omega)
    have HK := hid (And.intro hk (And.intro hk2 hkn))
    have e1 : IntKind.i64.wrap (c + 1) = c + 1 := by rw [IntKind.wrap_i64]; omega
    have e2 : IntKind.i64.wrap (-(c + 1)) = -(c + 1) := by rw [IntKind.wrap_i64]; omega
    clear hw hk hkn hn hk2
    go_enter Try.func24, Try.ntmps24
    go_wp2
    go_ret
    refine ⟨⟨k, ?_, HK.out.2.2⟩, rfl⟩
    have h1 := HK.out.1
    have h2 := HK.out.2.1
    have h3 : -((c + 1).tmod n) = (k : Int) := by rw [← Int.neg_tmod]; exact h1
    first | (rw [h1]; rfl) | (rw [h2]; rfl) | (rw [h3]; rfl)
  · obtain ⟨k, hk, hk2, hkn⟩ := hw c (by omega)
    have HK := hid (And.intro hk (And.intro hk2 hkn))
    clear hw hk hkn hn hk2
    go_enter Try.func24, Try.ntmps24
    go_wp2
    go_ret
    refine ⟨⟨k, ?_, HK.out.2.2⟩, rfl⟩
    have h1 := HK.out.1
    have h2 := HK.out.2.1
    first | (rw [h1]; rfl) | (rw [h2]; rfl)

end Go.Proofs.Ytkjalclplfdpmaa
/-
  The statement's list: numbers in memory of their own, with room for one more.
-/
set_option linter.unusedVariables false
set_option linter.unusedSimpArgs false
namespace Go.Proofs.Ytkjalclplfdpmaa
open Go.RowKit

/-- 'copy' into a row that is known whole, from its beginning on, of elements of whatever size. -/
theorem run_copy_any {P : Program} (w : World) (dT sT ty elem : TypeId) (size g dLen dCap : Nat) (ao : Option Addr) (sLen sCap m : Nat) (cur : List Value) (t : TypeId) (cs : List Value)
    (hu : P.underlying dT = some (.slice elem)) (hs : (P.info? elem).map (·.size) = some size) (h0 : 0 < size) (hg : w.heap[g]? = some (.cells cur.toArray t (0, 0))) (hm : Nat.min sLen dLen = m) (hn : cs.length = m * size)
    (hsrc : 0 < cs.length → ∃ ad, ao = some ad ∧ ∀ j v, cs[j]? = some v → w.cell? (ad.add j) = some v) (hfit : cs.length ≤ cur.length) (h1 : ∀ v ∈ cs, v.oneCell' = true) :
    ∃ w2, (Builtin.copy_ #[dT, sT] ty #[.slice (some ⟨g, 0, none⟩) dLen dCap, .slice ao sLen sCap]).run P w = .ok (.int .i64 (m : Int)) w2 ∧ w2.heap[g]? = some (.cells (splice cur 0 cs).toArray t (0, 0)) ∧ Mv (· = g) w w2 := by
  cases hq : P.info? elem with
  | none => simp [hq] at hs
  | some i =>
    have hi : i.size = size := by simpa [hq] using hs
    by_cases hz : m = 0
    · subst hz
      have hc : cs = [] := List.eq_nil_of_length_eq_zero (by rw [hn]; omega)
      subst hc
      have hl : ∀ (x : Addr), (loadCells x 0).run P w = .ok #[] w := fun x => by simpa using run_loadCells_list (P := P) w x [] (by simp)
      refine ⟨w, ?_, by simpa [splice] using hg, Mv.refl _ _⟩
      cases ao <;> simp [Builtin.copy_, run_underlying hu, Builtin.lenOf, Builtin.firstCells, sizeOf, typeInfo, hq, hm, storeCells, hl, goInt]
    · have hp : 0 < cs.length := by rw [hn]; exact Nat.mul_pos (by omega) h0
      obtain ⟨ad, rfl, hsc⟩ := hsrc hp
      have hl := run_loadCells_list (P := P) w ad cs hsc
      have hst := run_storeCells_at P g 0 t cs 0 cur.toArray w hg (by simpa using hfit) h1
      rw [hn] at hl
      refine ⟨_, ?_, setRow_heap w g _ _ t _ hg, ⟨rfl, rfl, rfl, by simp [World.setRow], fun k _ hk => setRow_other w g k _ hk⟩⟩
      simp [Builtin.copy_, run_underlying hu, Builtin.lenOf, Builtin.firstCells, sizeOf, typeInfo, hq, hi, hm, hl, hst, goInt, splice]

theorem g_sizeInt : (Try.prog.info? 3).map (·.size) = some 1 := by kernel_rfl

set_option maxHeartbeats 2000000 in
set_option maxRecDepth 100000 in
theorem list_any (w : World) (B : Nat) (ao : Option Addr) (cap : Nat) (xs : List Int) (h : IntsAt w B ao xs) (hB : B ≤ w.heap.size) : Calls Try.prog 14 #[.slice ao xs.length cap] w fun e w' => Nu w w' ∧ ∃ g, e = .returned (.slice (some ⟨g, 0, none⟩) xs.length (xs.length + 1)) ∧ OwnI w' w.heap.size (some ⟨g, 0, none⟩) (xs.length + 1) xs := by
  have hlim := h.lim
  have HR := hid h.row
  have HL := hid h.lim
  clear h
  obtain ⟨i0, hi, hz0, hz1, hz2⟩ := info_parts c_infoInt
  obtain ⟨cur, hcur⟩ : ∃ cur : List Value, cur = (madeCells (Value.int .i64 0).cells ((xs.length + 1) * 1)).toList := ⟨_, rfl⟩
  have hcl : cur.length = xs.length + 1 := by rw [hcur, Array.length_toList, size_madeCells]; omega
  have hmk : ∀ wx : World, (Instr.makeSlice 44 (.int .i64 ((xs.length : Int) + 1)) (.int .i64 ((xs.length : Int) + 1))).run Try.prog wx = .ok (.slice (some ⟨wx.heap.size, 0, none⟩) (xs.length + 1) (xs.length + 1)) (wx.alloc (.cells cur.toArray 3)) := fun wx => by
    have := run_make (P := Try.prog) wx 44 3 i0 (.int .i64 0) Try.underlying44 hi hz0 .i64 .i64 ((xs.length : Int) + 1) ((xs.length : Int) + 1) (by omega) (Int.le_refl _) (by rw [hz2]; omega) (by omega)
    rw [this, hz1, hcur, show ((xs.length : Int) + 1).toNat = xs.length + 1 by omega]
  obtain ⟨X1, hX1⟩ : ∃ X1 : List Value, X1 = xs.map (Value.int .i64) := ⟨_, rfl⟩
  have HX := hid hX1
  have hxl : X1.length = xs.length := by rw [hX1, List.length_map]
  have HXL := hid hxl
  have HCL := hid hcl
  have HN1 := hid (Mv.alloc (fun _ => False) w (.cells cur.toArray 3))
  have HB1 : Hid ((w.alloc (.cells cur.toArray 3)).heap[w.heap.size]? = some (.cells cur.toArray 3 (0, 0))) := heap_alloc_new w _
  clear hX1 hxl hcl hcur hi hz0 hz1 hz2
  go_enter Try.func14, Try.ntmps14
  go_upto_region 2 with fail
  clear hmk
  generalize hw1 : w.alloc (.cells cur.toArray 3) = w1 at *
  have hsrc : 0 < X1.length → ∃ ad, ao = some ad ∧ ∀ j v, X1[j]? = some v → w1.cell? (ad.add j) = some v := fun hp => by
    rcases HR.out with h0 | ⟨b, off, rfl, hb, hit⟩
    · have := HXL.out; omega
    · refine ⟨_, rfl, fun j v hj => ?_⟩
      rw [HX.out, List.getElem?_map] at hj
      obtain ⟨x, hx, rfl⟩ := Option.map_eq_some_iff.1 hj
      obtain ⟨hlt, rfl⟩ := List.getElem?_eq_some_iff.1 hx
      rw [Addr.add_lit]
      exact cell_mv HN1.out (hit j hlt) id
  obtain ⟨w2, hcp, hG2, hM2⟩ := run_copy_any (P := Try.prog) w1 44 44 3 3 1 w.heap.size (xs.length + 1) (xs.length + 1) ao xs.length cap xs.length cur 3 X1 Try.underlying44 g_sizeInt (by decide) HB1.out (Nat.min_eq_left (by omega)) (by rw [HXL.out]; omega) hsrc (by have := HXL.out; have := HCL.out; omega) (fun v hv => by rw [HX.out] at hv; obtain ⟨x, _, rfl⟩ := List.mem_map.1 hv; rfl)
  have HG2 := hid hG2
  have hB2 : Below w.heap.size w w2 := (HN1.out.nu_below).trans (hM2.below HN1.out.size (fun x hx => by omega))
  clear hsrc hG2 hM2
  go_upto_region 3 with fail
  clear hcp
  have HB2 := hid hB2
  obtain ⟨L, hL⟩ : ∃ L : List Value, L = splice cur 0 X1 := ⟨_, rfl⟩
  have HG3 : Hid (w2.heap[w.heap.size]? = some (.cells L.toArray 3 (0, 0))) := by show _ = _; rw [hL]; exact HG2.out
  have hll : L.length = xs.length + 1 := by rw [hL, length_splice _ _ _ (by have := HXL.out; have := HCL.out; omega)]; exact HCL.out
  have HLG : Hid (∀ i (hi : i < xs.length), L[i]? = some (.int .i64 xs[i])) := fun i hi => by
    rw [hL]
    unfold splice
    rw [List.take_zero, List.nil_append, List.getElem?_append_left (by rw [HXL.out]; exact hi), HX.out, List.getElem?_map, List.getElem?_eq_getElem hi]
    rfl
  have HLL := hid hll
  obtain ⟨u0, hu0⟩ : ∃ u0, L[xs.length]? = some u0 := ⟨L[xs.length], List.getElem?_eq_getElem (by omega)⟩
  have q0 : w2.cell? ⟨w.heap.size, xs.length, none⟩ = some u0 := by rw [cell_blk HG3.out, List.getElem?_toArray]; exact hu0
  have z0 := free_blk HG3.out xs.length
  have HM3 := hid (Mv.setCell w2 ⟨w.heap.size, xs.length, none⟩ (.int .i64 77))
  have HS3 := hid (setCell_blk (i := xs.length) (u := .int .i64 77) HG3.out)
  clear HG2 hL hll hu0 hB2
  go_wp2_with fail
  go_ret
  refine ⟨(Nu.of_below HB2.out).trans HM3.out (fun x hx => .inr (by have h1 : x = w.heap.size := hx; omega)), w.heap.size, rfl, Nat.le_succ _, by have := HL.out; omega, HL.out, .inr ⟨w.heap.size, _, rfl, Nat.le_refl _, HS3.out, by simp [HLL.out], fun i hi => ?_⟩⟩
  rw [Array.getElem?_setIfInBounds_ne (by omega), List.getElem?_toArray]
  exact HLG.out i hi

end Go.Proofs.Ytkjalclplfdpmaa
/-
  The reference's Numbers, asked for one.
-/
set_option linter.unusedVariables false
set_option linter.unusedSimpArgs false
namespace Go.Proofs.Ytkjalclplfdpmaa
open Go.RowKit

theorem nodeNo_eq (s : ByteArray) (size : Nat) (h : size ≤ 20000) : nodeNo size s = if (numAt s 0).2.2 = 0 ∧ (numAt s 0).2.1 = s.size ∧ (numAt s 0).1 < size then some (numAt s 0).1 else none := by
  have h1 := nums_one size h s
  simp only [nums, Nat.zero_add] at h1
  cases hn : nodeNo size s with
  | none =>
    rw [hn] at h1
    simp only [Option.map_none] at h1
    by_cases hc : (numAt s 0).2.2 = 0 ∧ (numAt s 0).2.1 = s.size ∧ (numAt s 0).1 < size
    · rw [if_pos ⟨hc.1, hc.2.2⟩, if_pos hc.2.1] at h1
      exact absurd h1 (by simp)
    · rw [if_neg hc]
  | some k =>
    rw [hn] at h1
    simp only [Option.map_some] at h1
    by_cases hc : (numAt s 0).2.2 = 0 ∧ (numAt s 0).1 < size
    · rw [if_pos hc] at h1
      by_cases hp : (numAt s 0).2.1 = s.size
      · rw [if_pos hp] at h1
        rw [if_pos ⟨hc.1, hp, hc.2⟩]
        simp at h1
        rw [h1]
      · rw [if_neg hp] at h1
        exact absurd h1 (by simp)
    · rw [if_neg hc] at h1
      exact absurd h1 (by simp)

/-- What Numbers tells. -/
def RNumOut (s : ByteArray) (w : World) (e : Ending) (w' : World) : Prop :=
  Nu w w' ∧ ((∃ v, e = .returned (.tuple #[v, .bool false]) ∧ ∀ size, size ≤ 20000 → nodeNo size s = none) ∨
    ∃ g cap n, e = .returned (.tuple #[.slice (some ⟨g, 0, none⟩) 1 cap, .bool true]) ∧ w'.cell? ⟨g, 0, none⟩ = some (.int .i64 (n : Nat)) ∧ n ≤ 1099511627776 ∧ ∀ size, size ≤ 20000 → nodeNo size s = if n < size then some n else none)

set_option maxHeartbeats 1000000 in
theorem rNumbers_any (w : World) (s : ByteArray) (hs : s.size ≤ 140737488355328) : Calls Try.prog 26 #[.string s, .int .i64 1] w (RNumOut s w) := by
  have HNO := hid (nodeNo_eq s)
  have HRD := hid (xrd_new w s)
  have HN1 : Hid (Nu w (w.alloc (.cells #[.string s, .int .i64 0] 96))) := Mv.alloc _ _ _
  obtain ⟨i0, hi0, hz0, hz1, hz2⟩ := info_parts c_infoInt
  have HI := hid (And.intro hi0 (And.intro hz0 (And.intro hz1 hz2)))
  have HNL : Hid (((numAt s 0).1 : Int) < 18446744073709551616) := numAt_lt s 0
  obtain ⟨q, hq⟩ : ∃ q, numAt s 0 = q := ⟨_, rfl⟩
  have HUI := hid (fun (wr : World) (h : RdIs 96 wr w.heap.size s 0) => xUint_any wr h hs)
  simp only [Nat.zero_add] at HUI
  rw [hq] at HNO HNL HUI
  obtain ⟨n, k, c⟩ := q
  simp only at HNO HNL HUI
  clear hi0 hz0 hz1 hz2 hq
  go_enter Try.func26, Try.ntmps26
  go_upto_region 3 with fail
  generalize hw1 : w.alloc (.cells #[.string s, .int .i64 0] 96) = w1 at *
  go_wp2
  go_loopw [7, 8] (fun ov iv wr => (iv = .int .i64 0 ∧ ov = .slice none 0 0 ∧ wr = w1) ∨ (∃ g cap, iv = .int .i64 1 ∧ ov = .slice (some ⟨g, 0, none⟩) 1 cap ∧ c = 0 ∧ n ≤ 1099511627776 ∧ Hid (wr.cell? ⟨g, 0, none⟩ = some (.int .i64 (n : Nat))) ∧ Hid (RdIs 96 wr w.heap.size s k) ∧ Hid (Nu w wr))) (fun _ iv _ => 1 - (intOf iv).toNat)
  case atStart => exact .inl ⟨rfl, rfl, rfl⟩
  case round =>
    rcases hrel with ⟨rfl, rfl, rfl⟩ | ⟨g, cap, rfl, rfl, rfl, hn, HC, HR, HNW⟩
    · have hn0 : (0 : Int) ≤ ((n : Nat) : Int) := by omega
      have hn1 := HNL.out
      go_upto_region 7 with (go_at_call 37; refine Calls.mono (HUI.out _ HRD.out) ?_; rintro e w3 ⟨rfl, hrd3, hk3⟩; have HRD3 := hid hrd3; have HK3 := hid (kept_mv hk3); clear hrd3 hk3)
      have HN3 : Hid (Nu w w3) := HN1.out.trans HK3.out (fun x hx => .inr (by simp at hx; omega))
      clear HUI HRD HK3
      by_cases hc : c = 0
      · subst hc
        rcases Nat.lt_or_ge 1099511627776 n with hnm | hnm
        · have hnm' : (1099511627776 : Int) < ((n : Nat) : Int) := by omega
          go_wp2
          go_ret2
          refine ⟨HN3.out, .inl ⟨_, rfl, fun size hsz => ?_⟩⟩
          rw [HNO.out size hsz, if_neg (fun h => by omega)]
        · have hnm' : ¬ (1099511627776 : Int) < ((n : Nat) : Int) := by omega
          have hw : IntKind.i64.wrap ((n : Nat) : Int) = ((n : Nat) : Int) := by rw [IntKind.wrap_i64]; omega
          go_upto_region 9 with fail
          have HNM := hid hnm
          clear hnm' hnm hn0 hn1
          have HAL := hid (Mv.alloc (fun _ => False) w3 (.cells #[.int .i64 ((n : Nat) : Int)] 3))
          have HOA : Hid ((w3.alloc (.cells #[.int .i64 ((n : Nat) : Int)] 3)).ownsRow (w.heap.size + 1) 3 1 (.slice none 0 0) 0 []) := ⟨by simp, .inl ⟨rfl, rfl⟩⟩
          have hz3 : w.heap.size + 1 ≤ w3.heap.size := by have := (lt_of_block HRD3.out.blk); omega
          go_wp2_with (at_builtin; refine wpList_append_own _ rfl _ _ 44 rfl (w.heap.size + 1) 3 i0 (.int .i64 0) 1 8 Try.underlying44 HI.out.1 HI.out.2.1 HI.out.2.2.1 HI.out.2.2.2 rfl (by decide) _ _ _ rfl HOA.out ⟨w3.heap.size, 0, none⟩ 1 1 [.int .i64 ((n : Nat) : Int)] rfl rfl (cell_one_new _ _ _) (by intro u hu; simp at hu; subst hu; rfl) (by unfold maxLen; omega) (by omega) (by simp; omega) ?_)
          intro v' w4 hown4 hg4 _
          have HM4 : Hid (Nu w3 w4) := (HAL.out.mono (fun _ h => h.elim)).trans (Mv.grown hg4) (fun x hx => .inl (by simp [Value.ownBlock] at hx))
          have HRD4 : Hid (RdIs 96 w4 w.heap.size s k) := ⟨HM4.out.heap HRD3.out.blk (fun e => e), HRD3.out.le⟩
          have HN4 : Hid (Nu w w4) := mv0 HN3.out HM4.out
          obtain ⟨g, cap, rfl⟩ : ∃ g cap, v' = .slice (some ⟨g, 0, none⟩) 1 cap := by
            rcases hown4.2 with ⟨_, hn'⟩ | ⟨g, cap4, _, hv, _⟩
            · omega
            · exact ⟨_, _, hv⟩
          have HC4 : Hid (w4.cell? ⟨g, 0, none⟩ = some (.int .i64 ((n : Nat) : Int))) := by
            have := hown4.cells (g := g) rfl 0 _ rfl
            rwa [add_block] at this
          clear hown4 hg4
          go_wp2
          go_roundw
          case rel => exact .inr ⟨g, cap, rfl, rfl, by simp, HNM.out, HC4.out, HRD4.out, HN4.out⟩
          case measure => simp [intOf]
      · go_wp2
        go_ret2
        refine ⟨HN3.out, .inl ⟨_, rfl, fun size hsz => ?_⟩⟩
        rw [HNO.out size hsz, if_neg (fun h => hc h.1)]
    · have c1 := cell_blk HR.out.blk 1
      simp at c1
      rcases Nat.lt_or_ge k s.size with hp | hp
      · have hp' : ¬ (k : Int) = (s.size : Int) := by omega
        have hd : ((k : Int) == (s.size : Int)) = false := by simpa using hp'
        clear HUI HRD
        go_wp2
        go_quiet (fail)
        go_wp2
        go_ret2
        refine ⟨HNW.out.trans (nu_drewN' _ _) (fun _ h => h.elim), .inl ⟨.slice (some ⟨g, 0, none⟩) 1 cap, by simp [hd], fun size hsz => ?_⟩⟩
        rw [HNO.out size hsz, if_neg (fun h => by omega)]
      · obtain rfl : k = s.size := Nat.le_antisymm HR.out.le hp
        clear HUI HRD
        go_wp2
        go_quiet (fail)
        go_wp2
        go_ret2
        refine ⟨HNW.out.trans (nu_drewN' _ _) (fun _ h => h.elim), .inr ⟨g, cap, n, by simp, HC.out, hn, fun size hsz => ?_⟩⟩
        rw [HNO.out size hsz]
        simp

end Go.Proofs.Ytkjalclplfdpmaa
/-
  The reference's copies, Bytes of one number, Set, Numbers of one number.
-/
set_option linter.unusedVariables false
set_option linter.unusedSimpArgs false
namespace Go.Proofs.Ytkjalclplfdpmaa
open Go.RowKit

/-- Nothing is appended to nothing. -/
theorem wpList_append_nil {P : Program} (w : World) {ops : Array Oper} {rest : List Oper} {o : Oper} {a : Act} {Q : Exit → Act → World → Prop} (hgd : o.guard = none) (s x : Operand) (t e : TypeId) (i : TypeInfo)
    (ho : o.op = .call { callee := .builtin .append, args := #[s, x], argTypes := #[t, t] }) (ht : P.underlying t = some (.slice e)) (hi : P.info? e = some i) (ao : Option Addr) (c : Nat) (hs : a.eval s = .slice none 0 0) (hx : a.eval x = .slice ao 0 c)
    (h : wpList P ops Q rest (a.put o.dst (.slice none 0 0)) w) : wpList P ops Q (o :: rest) a w := by
  refine wpList_plain hgd fun K hK => ?_
  have hrun : (Builtin.append_ #[t, t] o.type #[.slice none 0 0, .slice ao 0 c]).run P w = .ok (.slice none 0 0) w := by
    cases ao <;> simp [Builtin.append_, run_underlying ht, sizeOf, typeInfo, hi, Builtin.lenOf, Builtin.firstCells, loadCells, loadCellsFrom]
  unfold Oper.wp
  simp [execOp, ho, resolve, invoke, builtin, hs, hx, hrun, Result.andThen]
  exact hK _ _ h

set_option maxHeartbeats 2000000 in
set_option maxRecDepth 100000 in
/-- A copy of numbers: of one's own. -/
theorem copies_any (w : World) (B : Nat) (ao : Option Addr) (cap : Nat) (xs : List Int) (h : IntsAt w B ao xs) : Calls Try.prog 27 #[.slice ao xs.length cap] w fun e w' => Nu w w' ∧ ∃ ao' cap', e = .returned (.slice ao' xs.length cap') ∧ OwnI w' w.heap.size ao' cap' xs := by
  have hlim := h.lim
  have HR : Hid _ := h.row
  clear h
  by_cases hx : xs.length = 0
  · obtain rfl : xs = [] := List.length_eq_zero_iff.1 hx
    obtain ⟨i0, hi, _⟩ := info_parts c_infoInt
    simp only [List.length_nil]
    go_enter Try.func27, Try.ntmps27
    go_wp2_with (at_builtin; refine wpList_append_nil _ rfl _ _ 44 3 i0 rfl Try.underlying44 hi ao cap rfl rfl ?_)
    go_ret
    exact ⟨Mv.refl _ _, none, 0, rfl, Nat.le_refl _, by decide, by decide, .inl rfl⟩
  · obtain ⟨b, off, rfl, hb, hit⟩ : ∃ b off, ao = some ⟨b, off, none⟩ ∧ b < B ∧ ∀ i (h : i < xs.length), w.cell? ⟨b, off + i, none⟩ = some (.int .i64 xs[i]) := HR.out.elim (fun h => absurd h hx) id
    obtain ⟨i0, hi, hz0, hz1, hz2⟩ := info_parts c_infoInt
    have HIT := hid hit
    clear hit
    go_enter Try.func27, Try.ntmps27
    go_wp2_with (at_builtin; refine wpList_append_own _ rfl _ _ 44 rfl w.heap.size 3 i0 (.int .i64 0) 1 8 Try.underlying44 hi hz0 hz1 hz2 rfl (by decide) _ 0 [] rfl ⟨rfl, .inl ⟨rfl, rfl⟩⟩ ⟨b, off, none⟩ xs.length cap (xs.map (Value.int .i64)) rfl ?qc1 ?qc2 ?qc3 ?qc4 ?qc5 ?qc6 ?_)
    case qc1 => simp
    case qc2 =>
      intro j u hj
      rw [List.getElem?_map] at hj
      obtain ⟨x, hx, rfl⟩ := Option.map_eq_some_iff.1 hj
      obtain ⟨hlt, rfl⟩ := List.getElem?_eq_some_iff.1 hx
      rw [Addr.add_lit]
      exact HIT.out j hlt
    case qc3 => intro u hu; obtain ⟨x, _, rfl⟩ := List.mem_map.1 hu; rfl
    case qc4 => unfold maxLen; omega
    case qc5 => omega
    case qc6 => exact Nat.le_refl _
    intro v' w1 hown hgrow hnil
    have HO := hid hown
    have HG := hid hgrow
    have HNI := hid hnil
    clear hown hgrow hnil
    go_wp2
    go_ret
    have hb : Below w.heap.size w w1 := (Below.refl _ w).grown HG.out (by simp) (by intro k hk; simp [Value.ownBlock] at hk)
    refine ⟨Nu.of_below hb, ?_⟩
    have hown := HO.out
    rcases hown.2 with ⟨hv, hn⟩ | ⟨g, cap', cur, hv, hg, hblk, hle, hmax, hsz, hcur⟩
    · simp at hn; subst hn; exact absurd rfl hx
    · subst hv
      refine ⟨some ⟨g, 0, none⟩, cap', by simp, by simpa using hle, by unfold maxLen at hmax; omega, hlim, .inr ⟨g, cur, rfl, hg, hblk, by rw [hsz, Nat.mul_one], fun i hi => ?_⟩⟩
      have := hown.cells (g := g) rfl i (.int .i64 xs[i]) (by simp [List.getElem?_map, List.getElem?_eq_getElem hi])
      rw [add_block, cell_blk hblk] at this
      exact this

theorem strOf_nst (n : Nat) : strOf (encU n) = nst n := by unfold nst txt strOf; rfl

set_option maxHeartbeats 2000000 in
set_option maxRecDepth 20000 in
/-- One number as bytes. -/
theorem rBytes_any (w : World) (g n : Nat) (hc : w.cell? ⟨g, 0, none⟩ = some (.int .i64 (n : Int))) (hn : (n : Int) ≤ 9223372036854775807) : Calls Try.prog 13 #[.slice (some ⟨g, 0, none⟩) 1 1] w fun e w' => e = .returned (.string (nst n)) ∧ Nu w w' := by
  obtain ⟨O, hO⟩ : ∃ O, O = nst n := ⟨_, rfl⟩
  have HE : Hid (strOf (encU n) = O) := by show _ = _; rw [hO]; exact strOf_nst n
  have hsz : O.size ≤ 10 := by rw [hO]; exact encU_short n (by omega)
  obtain ⟨E, hE⟩ : ∃ E : ByteArray, E = ⟨#[]⟩ := ⟨_, rfl⟩
  have HE0 := hid hE
  have hEO : E ++ O = O := by rw [hE]; exact ByteArray.empty_append
  have HEO := hid hEO
  have hes : E.size + O.size ≤ 9223372036854775807 := by have : E.size = 0 := by rw [hE]; rfl
                                                         omega
  have hsum := fun wx => run_string_add_sum (P := Try.prog) (w := wx) E O hes
  rw [← hO]
  have hwr : IntKind.u64.wrap (n : Int) = (n : Int) := by rw [IntKind.wrap_u64]; omega
  have HN : Hid ((n : Int) < 18446744073709551616) := by show _ < _; omega
  clear hO hsz hn hE hEO hes
  go_enter Try.func13, Try.ntmps13
  go_wp2_with fail
  go_loopw [3, 4] (fun sv iv wr => Hid (Nu w wr) ∧ ((iv = .int .i64 0 ∧ sv = .string E) ∨ (iv = .int .i64 1 ∧ sv = .string O))) (fun _ iv _ => (1 - intOf iv).toNat)
  case atStart => exact ⟨Mv.refl _ _, .inl ⟨rfl, by rw [HE0.out]⟩⟩
  case round =>
    obtain ⟨HM, ⟨rfl, rfl⟩ | ⟨rfl, rfl⟩⟩ := hrel
    · have c0 := cell_mv HM.out hc id
      clear hc
      go_wp2_with fail
      refine (Number_any n wr HN.out).mono ?_
      rw [HE.out]
      rintro e w2 ⟨rfl, hk2⟩
      have HK2 := hid (Nu.of_below hk2.below)
      clear hk2
      go_wp2_with fail
      go_roundw
      case rel => exact ⟨mv0 HM.out HK2.out, .inr ⟨by go_num, by rw [HEO.out]⟩⟩
      case measure => simp [intOf]
    · go_wp2_with fail
      go_ret
      exact ⟨rfl, HM.out⟩

end Go.Proofs.Ytkjalclplfdpmaa
/-
  Operations of the reference's Look and Next, one lemma each.
-/
set_option linter.unusedVariables false
set_option linter.unusedSimpArgs false
namespace Go.Proofs.Ytkjalclplfdpmaa
open Go.RowKit

theorem set5 {w : World} {b : Nat} {t : TypeId} {z0 z1 z2 z3 z4 v0 v1 v2 v3 v4 : Value} (h : w.heap[b]? = some (.cells #[z0, z1, z2, z3, z4] t (0, 0))) :
    (((((w.setCell ⟨b, 0, none⟩ v0).setCell ⟨b, 1, none⟩ v1).setCell ⟨b, 2, none⟩ v2).setCell ⟨b, 3, none⟩ v3).setCell ⟨b, 4, none⟩ v4).heap[b]? = some (.cells #[v0, v1, v2, v3, v4] t (0, 0)) ∧ Mv (· = b) w (((((w.setCell ⟨b, 0, none⟩ v0).setCell ⟨b, 1, none⟩ v1).setCell ⟨b, 2, none⟩ v2).setCell ⟨b, 3, none⟩ v3).setCell ⟨b, 4, none⟩ v4) := by
  have h0 := setCell_blk (i := 0) (u := v0) h
  have h1 := setCell_blk (i := 1) (u := v1) h0
  have h2 := setCell_blk (i := 2) (u := v2) h1
  have h3 := setCell_blk (i := 3) (u := v3) h2
  have h4 := setCell_blk (i := 4) (u := v4) h3
  simp only [List.setIfInBounds_toArray, List.set_cons_succ, List.set_cons_zero] at h4
  refine ⟨h4, ?_⟩
  have m (W : World) (i : Nat) (u : Value) : Mv (· = b) W (W.setCell ⟨b, i, none⟩ u) := Mv.setCell W ⟨b, i, none⟩ u
  have t2 {A B C : World} (h : Mv (· = b) A B) (k : Mv (· = b) B C) : Mv (· = b) A C := h.trans k (fun _ h => .inl h)
  exact t2 (t2 (t2 (t2 (m _ _ _) (m _ _ _)) (m _ _ _)) (m _ _ _)) (m _ _ _)
section
variable {o : Oper} {a : Act} {w : World} {K : Act → World → Prop} {Q : Exit → Act → World → Prop} {d : Nat}

theorem lk_fieldNet0 {s b : Nat} (hd : o.dst = some d) (ho : o.op = .fieldAddr 24 (.tmp s) 0) (hs : a.tmps[s]? = some (.pointer (some ⟨b, 0, none⟩))) (hK : ∀ w', Nu w w' → K ⟨a.tmps.setIfInBounds d (.pointer (some ⟨b, 0, none⟩)), a.defers⟩ w') : Oper.wp Try.prog o a w K Q := by
  have he : a.eval (.tmp s) = .pointer (some ⟨b, 0, none⟩) := by simp [Act.eval, hs]
  unfold Oper.wp execOp
  simp only [ho, he, hd]
  go_simp
  exact hK w (Mv.refl _ _)
theorem lk_loadNs {s b f : Nat} {v : Value} (hd : o.dst = some d) (ho : o.op = .load 22 (.tmp s)) (hs : a.tmps[s]? = some (.pointer (some ⟨b, f, none⟩))) (h0 : w.cell? ⟨b, f, none⟩ = some v) (hK : ∀ w', Nu w w' → K ⟨a.tmps.setIfInBounds d v, a.defers⟩ w') : Oper.wp Try.prog o a w K Q := by
  have he : a.eval (.tmp s) = .pointer (some ⟨b, f, none⟩) := by simp [Act.eval, hs]
  unfold Oper.wp execOp
  simp only [ho, he, hd]
  go_simp
  exact hK w (Mv.refl _ _)
theorem lk_idxI0 {s g c : Nat} (hd : o.dst = some d) (ho : o.op = .indexAddr 44 (.tmp s) (.const (.int .i64 0))) (hs : a.tmps[s]? = some (.slice (some ⟨g, 0, none⟩) 1 c)) (hK : ∀ w', Nu w w' → K ⟨a.tmps.setIfInBounds d (.pointer (some ⟨g, 0, none⟩)), a.defers⟩ w') : Oper.wp Try.prog o a w K Q := by
  have hes : a.eval (.tmp s) = .slice (some ⟨g, 0, none⟩) 1 c := by simp [Act.eval, hs]
  unfold Oper.wp execOp
  simp only [ho, hd]
  go_simp
  exact hK w (Mv.refl _ _)
theorem lk_idxNs {s r g f n i c : Nat} (hi : i < n) (hd : o.dst = some d) (ho : o.op = .indexAddr 22 (.tmp s) (.tmp r)) (hs : a.tmps[s]? = some (.slice (some ⟨g, f, none⟩) n c)) (hr : a.tmps[r]? = some (.int .i64 (i : Int))) (hK : ∀ w', Nu w w' → K ⟨a.tmps.setIfInBounds d (.pointer (some ⟨g, f + i * 5, none⟩)), a.defers⟩ w') : Oper.wp Try.prog o a w K Q := by
  have hes : a.eval (.tmp s) = .slice (some ⟨g, f, none⟩) n c := by simp [Act.eval, hs]
  have her : a.eval (.tmp r) = .int .i64 (i : Int) := by simp [Act.eval, hr]
  have hi' : (i : Int) < (n : Int) := by omega
  unfold Oper.wp execOp
  simp only [ho, hd]
  go_simp
  exact hK w (Mv.refl _ _)
theorem lk_loadNode {s b f : Nat} {v0 v1 v2 v3 v4 : Value} (hd : o.dst = some d) (ho : o.op = .load 48 (.tmp s)) (hs : a.tmps[s]? = some (.pointer (some ⟨b, f, none⟩))) (h0 : w.cell? ⟨b, f, none⟩ = some v0) (h1 : w.cell? ⟨b, f + 1, none⟩ = some v1) (h2 : w.cell? ⟨b, f + 2, none⟩ = some v2) (h3 : w.cell? ⟨b, f + 3, none⟩ = some v3) (h4 : w.cell? ⟨b, f + 4, none⟩ = some v4) (hK : ∀ w', Nu w w' → K ⟨a.tmps.setIfInBounds d (.agg #[v0, v1, v2, v3, v4]), a.defers⟩ w') : Oper.wp Try.prog o a w K Q := by
  have he : a.eval (.tmp s) = .pointer (some ⟨b, f, none⟩) := by simp [Act.eval, hs]
  unfold Oper.wp execOp
  simp only [ho, he, hd]
  go_simp
  exact hK w (Mv.refl _ _)
theorem lk_allocN (hd : o.dst = some d) (ho : o.op = .alloc 48) (hK : K ⟨a.tmps.setIfInBounds d (.pointer (some ⟨w.heap.size, 0, none⟩)), a.defers⟩ (w.alloc (.cells #[.slice none 0 0, .int .u64 0, .bool false, .bool false, .bool false] 48))) : Oper.wp Try.prog o a w K Q := by
  unfold Oper.wp execOp
  simp only [ho, hd]
  go_simp
  exact hK
set_option maxHeartbeats 2000000 in
theorem lk_storeN {s r nb : Nat} {z0 z1 z2 z3 z4 : Value} {p : Int} {e1 e2 e3 : Bool} {ra : Option Addr} {rn rc : Nat} (hd : o.dst = none) (ho : o.op = .store 48 (.tmp s) (.tmp r)) (hs : a.tmps[s]? = some (.pointer (some ⟨nb, 0, none⟩))) (hr : a.tmps[r]? = some (.agg #[.slice ra rn rc, .int .u64 p, .bool e1, .bool e2, .bool e3])) (hb : w.heap[nb]? = some (.cells #[z0, z1, z2, z3, z4] 48 (0, 0)))
    (hK : ∀ w', w'.heap[nb]? = some (.cells #[.slice ra rn rc, .int .u64 p, .bool e1, .bool e2, .bool e3] 48 (0, 0)) → Mv (· = nb) w w' → K a w') : Oper.wp Try.prog o a w K Q := by
  have hes : a.eval (.tmp s) = .pointer (some ⟨nb, 0, none⟩) := by simp [Act.eval, hs]
  have her : a.eval (.tmp r) = .agg #[.slice ra rn rc, .int .u64 p, .bool e1, .bool e2, .bool e3] := by simp [Act.eval, hr]
  obtain ⟨d0, d1, d2, d3, d4⟩ := cells5 hb
  have f0 := free_blk hb 0
  have f1 := free_blk hb 1
  have f2 := free_blk hb 2
  have f3 := free_blk hb 3
  have f4 := free_blk hb 4
  unfold Oper.wp execOp
  simp only [ho, hd, hes, her]
  go_simp
  obtain ⟨h1, h2⟩ := set5 (v0 := .slice ra rn rc) (v1 := .int .u64 p) (v2 := .bool e1) (v3 := .bool e2) (v4 := .bool e3) hb
  exact hK _ h1 h2

theorem lk_copies {s B cap : Nat} {ao : Option Addr} {xs : List Int} (hd : o.dst = some d) (ho : o.op = .call { callee := .value (.func 27), args := #[.tmp s], argTypes := #[44] }) (hs : a.tmps[s]? = some (.slice ao xs.length cap)) (hx : IntsAt w B ao xs)
    (hK : ∀ w' ao' cap', Nu w w' → OwnI w' w.heap.size ao' cap' xs → K ⟨a.tmps.setIfInBounds d (.slice ao' xs.length cap'), a.defers⟩ w') : Oper.wp Try.prog o a w K Q := by
  have he : a.eval (.tmp s) = .slice ao xs.length cap := by simp [Act.eval, hs]
  unfold Oper.wp execOp
  simp only [ho, hd]
  go_simp
  refine Calls.mono (copies_any w B ao cap xs hx) ?_
  rintro e w' ⟨hm, ao', cap', rfl, hown⟩
  exact hK w' ao' cap' hm hown

theorem lk_buildM2 {s0 s1 s5 s6 s7 s8 : Nat} {p k b t : Int} {ra wa : Option Addr} {rn rc wn wc : Nat} (hd : o.dst = some d) (ho : o.op = .build 70 #[(0, .tmp s0), (1, .tmp s1), (2, .const (.int .i64 (-1))), (3, .const (.int .i64 (-1))), (5, .tmp s5), (6, .tmp s6), (7, .tmp s7), (8, .tmp s8)]) (h0 : a.tmps[s0]? = some (.int .i64 p)) (h1 : a.tmps[s1]? = some (.int .i64 k)) (h5 : a.tmps[s5]? = some (.int .i64 b)) (h6 : a.tmps[s6]? = some (.slice ra rn rc)) (h7 : a.tmps[s7]? = some (.slice wa wn wc)) (h8 : a.tmps[s8]? = some (.int .u64 t))
    (hK : ∀ w', Nu w w' → K ⟨a.tmps.setIfInBounds d (.agg #[.int .i64 p, .int .i64 k, .int .i64 (-1), .int .i64 (-1), .string ⟨#[]⟩, .int .i64 b, .slice ra rn rc, .slice wa wn wc, .int .u64 t]), a.defers⟩ w') : Oper.wp Try.prog o a w K Q := by
  have e0 : a.eval (.tmp s0) = .int .i64 p := by simp [Act.eval, h0]
  have e1 : a.eval (.tmp s1) = .int .i64 k := by simp [Act.eval, h1]
  have e5 : a.eval (.tmp s5) = .int .i64 b := by simp [Act.eval, h5]
  have e6 : a.eval (.tmp s6) = .slice ra rn rc := by simp [Act.eval, h6]
  have e7 : a.eval (.tmp s7) = .slice wa wn wc := by simp [Act.eval, h7]
  have e8 : a.eval (.tmp s8) = .int .u64 t := by simp [Act.eval, h8]
  unfold Oper.wp execOp
  simp only [ho, hd]
  go_simp
  exact hK w (Mv.refl _ _)

set_option maxHeartbeats 4000000 in
theorem lk_storeM2 {s r nb : Nat} {z0 z1 z2 z3 z4 z5 z6 z7 z8 : Value} {p k b t : Int} {ra wa : Option Addr} {rn rc wn wc : Nat} (hd : o.dst = none) (ho : o.op = .store 70 (.tmp s) (.tmp r)) (hs : a.tmps[s]? = some (.pointer (some ⟨nb, 0, none⟩))) (hr : a.tmps[r]? = some (.agg #[.int .i64 p, .int .i64 k, .int .i64 (-1), .int .i64 (-1), .string ⟨#[]⟩, .int .i64 b, .slice ra rn rc, .slice wa wn wc, .int .u64 t])) (hb : w.heap[nb]? = some (.cells #[z0, z1, z2, z3, z4, z5, z6, z7, z8] 70 (0, 0)))
    (hK : ∀ w', w'.heap[nb]? = some (.cells #[.int .i64 p, .int .i64 k, .int .i64 (-1), .int .i64 (-1), .string ⟨#[]⟩, .int .i64 b, .slice ra rn rc, .slice wa wn wc, .int .u64 t] 70 (0, 0)) → Mv (· = nb) w w' → K a w') : Oper.wp Try.prog o a w K Q := by
  have hes : a.eval (.tmp s) = .pointer (some ⟨nb, 0, none⟩) := by simp [Act.eval, hs]
  have her : a.eval (.tmp r) = .agg #[.int .i64 p, .int .i64 k, .int .i64 (-1), .int .i64 (-1), .string ⟨#[]⟩, .int .i64 b, .slice ra rn rc, .slice wa wn wc, .int .u64 t] := by simp [Act.eval, hr]
  have d0 := cell_blk hb 0
  have d1 := cell_blk hb 1
  have d2 := cell_blk hb 2
  have d3 := cell_blk hb 3
  have d4 := cell_blk hb 4
  have d5 := cell_blk hb 5
  have d6 := cell_blk hb 6
  have d7 := cell_blk hb 7
  have d8 := cell_blk hb 8
  simp only [List.size_toArray, List.length_cons, List.length_nil, Nat.reduceAdd, Nat.lt_add_one, Nat.reduceLT, getElem?_pos, List.getElem_toArray, List.getElem_cons_zero, List.getElem_cons_succ, Nat.zero_lt_succ] at d0 d1 d2 d3 d4 d5 d6 d7 d8
  have f0 := free_blk hb 0
  have f1 := free_blk hb 1
  have f2 := free_blk hb 2
  have f3 := free_blk hb 3
  have f4 := free_blk hb 4
  have f5 := free_blk hb 5
  have f6 := free_blk hb 6
  have f7 := free_blk hb 7
  have f8 := free_blk hb 8
  unfold Oper.wp execOp
  simp only [ho, hd, hes, her]
  go_simp
  obtain ⟨h1, h2⟩ := set9 (v0 := .int .i64 p) (v1 := .int .i64 k) (v2 := .int .i64 (-1)) (v3 := .int .i64 (-1)) (v4 := .string ⟨#[]⟩) (v5 := .int .i64 b) (v6 := .slice ra rn rc) (v7 := .slice wa wn wc) (v8 := .int .u64 t) hb
  exact hK _ h1 h2
end

end Go.Proofs.Ytkjalclplfdpmaa
/-
  The reference's Set.
-/
set_option linter.unusedVariables false
set_option linter.unusedSimpArgs false
namespace Go.Proofs.Ytkjalclplfdpmaa
open Go.RowKit

theorem last_ge : ∀ (l : List Int) (a : Int), -1 ≤ a → riseF a l = true → a ≤ lastF a l ∧ (l ≠ [] → 0 ≤ lastF a l)
  | [], a, ha, _ => ⟨Int.le_refl _, fun h => absurd rfl h⟩
  | x :: r, a, ha, h => by
    rw [riseF, Bool.and_eq_true, decide_eq_true_eq] at h
    obtain ⟨h1, h2⟩ := last_ge r x (by omega) h.2
    refine ⟨by rw [lastF]; omega, fun _ => by rw [lastF]; omega⟩
theorem last_at {xs : List Int} {i : Nat} (hi : 0 < i) (h : i ≤ xs.length) : lastF (-1) (xs.take i) = xs[i - 1]'(by omega) := by
  obtain ⟨j, rfl⟩ : ∃ j, i = j + 1 := ⟨i - 1, by omega⟩
  rw [List.take_add_one, List.getElem?_eq_getElem (by omega), Option.toList_some, lastF_snoc]
  simp

set_option maxHeartbeats 2000000 in
theorem rSet_any (w : World) (B : Nat) (ao : Option Addr) (cap : Nat) (xs : List Int) (h : IntsAt w B ao xs) : Calls Try.prog 17 #[.slice ao xs.length cap] w fun e w' => e = .returned (.bool (riseB xs)) ∧ Nu w w' := by
  have hlim := h.lim
  have HR : Hid _ := h.row
  rw [riseB_eq]
  clear h
  go_enter Try.func17, Try.ntmps17
  go_wp2
  go_loopw [3] (fun iv wr => ∃ (i j : Nat), i ≤ xs.length ∧ iv = .int .i64 (i : Int) ∧ Hid (riseF (-1) (xs.take i) = true) ∧ wr = w.drewN j) (fun iv _ => xs.length - (intOf iv).toNat)
  case atStart => exact ⟨0, 0, Nat.zero_le _, rfl, (rfl : riseF (-1) [] = true), rfl⟩
  case round =>
    obtain ⟨i, j, hi, rfl, HF, rfl⟩ := hrel
    rcases Nat.lt_or_ge i xs.length with hlt | hge
    · have hlt' : (i : Int) < (xs.length : Int) := by omega
      rcases HR.out with h0 | ⟨b, off, rfl, _, hit⟩
      · omega
      have c0 : ∀ n, (w.drewN n).cell? ⟨b, off + i, none⟩ = some (.int .i64 xs[i]) := fun n => hit i hlt
      have HS : Hid (xs.take (i + 1) = xs.take i ++ [xs[i]]) := by
        show _ = _
        rw [List.take_add_one, List.getElem?_eq_getElem hlt, Option.toList_some]
      have HD : Hid (xs = xs.take i ++ xs[i] :: xs.drop (i + 1)) := by
        show _ = _
        rw [← List.drop_eq_getElem_cons hlt, List.take_append_drop]
      have HLT : Hid (i < xs.length) := hlt
      have HLA : Hid (0 < i → ∃ y, (∀ n, (w.drewN n).cell? ⟨b, off + (i - 1), none⟩ = some (.int .i64 y)) ∧ lastF (-1) (xs.take i) = y ∧ 0 ≤ y) := fun hp => by
        refine ⟨xs[i - 1], fun n => hit (i - 1) (by omega), last_at hp hi, ?_⟩
        have := (last_ge (xs.take i) (-1) (Int.le_refl _) HF.out).2 (by intro h; have := congrArg List.length h; rw [List.length_take, List.length_nil, Nat.min_def] at this; split at this <;> omega)
        rwa [last_at hp hi] at this
      generalize hx : xs[i] = x at *
      clear hit hlt hx
      have fin : ∀ (n : Nat), ¬ lastF (-1) (xs.take i) < x → riseF (-1) xs = false := fun (n : Nat) hno => by
        rw [HD.out]
        exact riseF_snoc _ _ _ _ hno
      have go : lastF (-1) (xs.take i) < x → riseF (-1) (xs.take (i + 1)) = true := fun hy => by
        rw [HS.out]
        exact riseF_more _ _ _ HF.out hy
      have HFN := hid fin
      have HGO := hid go
      clear fin go
      rcases Nat.eq_zero_or_pos i with h0 | hp
      · subst h0
        have hz : ((0 : Nat) : Int) = 0 := rfl
        have hzz : off + 0 = off := rfl
        rw [hzz] at c0
        by_cases hx : x < 0
        · have hd : decide (x < 0) = true := by simpa using hx
          have HE : Hid (riseF (-1) xs = false) := HFN.out 0 (by show ¬ (-1 : Int) < x; omega)
          clear HLA HGO HFN hx
          go_wp2
          go_quiet (fail)
          go_wp2
          go_ret
          exact ⟨by rw [HE.out]; rfl, (by first | exact nu_drewN' _ _ | exact (nu_drewN' _ _).trans (nu_drewN' _ _) (fun _ h => h.elim))⟩
        · have hd : decide (x < 0) = false := by simpa using hx
          have HE : Hid (riseF (-1) (xs.take (0 + 1)) = true) := HGO.out (by show (-1 : Int) < x; omega)
          clear HLA HGO HFN hx
          go_wp2
          go_quiet (fail)
          go_wp2
          go_roundw
          case rel => exact ⟨1, _, HLT.out, by go_num, HE.out, rfl⟩
          case measure => have := HLT.out; simp [intOf]; omega
      · obtain ⟨y, cy, hy, hy0⟩ := HLA.out hp
        have hgt : (0 : Int) < (i : Int) := by omega
        have hwr : IntKind.i64.wrap ((i : Int) - 1) = (i : Int) - 1 := by rw [IntKind.wrap_i64]; omega
        obtain ⟨i', rfl⟩ : ∃ i', i = i' + 1 := ⟨i - 1, by omega⟩
        have hs1 : (((i' + 1 : Nat) : Int) - 1) = (i' : Int) := by omega
        have hlt1 : (i' : Int) < (xs.length : Int) := by omega
        simp only [Nat.add_sub_cancel] at cy
        by_cases hx : x < 0
        · have hd : decide (x < 0) = true := by simpa using hx
          have HE : Hid (riseF (-1) xs = false) := HFN.out 0 (by rw [hy]; omega)
          clear HLA HGO HFN hx hy hy0 hp
          go_wp2
          go_quiet (fail)
          go_wp2
          go_ret
          exact ⟨by rw [HE.out]; rfl, (by first | exact nu_drewN' _ _ | exact (nu_drewN' _ _).trans (nu_drewN' _ _) (fun _ h => h.elim))⟩
        · have hd : decide (x < 0) = false := by simpa using hx
          by_cases hle : x ≤ y
          · have hd2 : decide (x ≤ y) = true := by simpa using hle
            have HE : Hid (riseF (-1) xs = false) := HFN.out 0 (by rw [hy]; omega)
            clear HLA HGO HFN hx hy hy0 hp hle
            go_wp2
            go_quiet (fail)
            go_wp2
            go_ret
            exact ⟨by rw [HE.out]; rfl, (by first | exact nu_drewN' _ _ | exact (nu_drewN' _ _).trans (nu_drewN' _ _) (fun _ h => h.elim))⟩
          · have hd2 : decide (x ≤ y) = false := by simpa using hle
            have HE : Hid (riseF (-1) (xs.take (i' + 1 + 1)) = true) := HGO.out (by rw [hy]; omega)
            clear HLA HGO HFN hx hy hy0 hp hle
            go_wp2
            go_quiet (fail)
            go_wp2
            go_roundw
            case rel => exact ⟨i' + 1 + 1, _, HLT.out, by go_num, HE.out, rfl⟩
            case measure => have := HLT.out; simp [intOf]; omega
    · obtain rfl : i = xs.length := by omega
      have HT : Hid (riseF (-1) xs = true) := by have := HF.out; rwa [List.take_length] at this
      go_wp2
      go_ret
      exact ⟨by rw [HT.out]; rfl, (by first | exact nu_drewN' _ _ | exact (nu_drewN' _ _).trans (nu_drewN' _ _) (fun _ h => h.elim))⟩

end Go.Proofs.Ytkjalclplfdpmaa
