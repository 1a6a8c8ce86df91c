/-
  VNames.
-/
import Derived.Sort.OwnSorted
import Derived.Test.YtidihaecgmbhpabDoorM12
import Derived.Test.YtidihaecgmbhpabDoorM29
import Derived.Test.YtidihaecgmbhpabDoorM7
/-
  The names of a tree: what the program's Names gives.
-/
set_option linter.unusedSimpArgs false
set_option linter.unusedVariables false
namespace Go.Proofs.YtidihaecgmbhpabDoor
open Go.RowKit Q Go.Sort

theorem strV_enc (xs : List Wd) : strV xs = xs.map encStr := rfl

set_option maxHeartbeats 1000000 in
theorem Collect_any (w : World) (cn pb po : Nat) (hpl : pb < w.heap.size) (c0 c1 c2 : Value) (root : A) (hc : w.cell? ⟨cn, 0, none⟩ = some (.pointer (some ⟨pb, po, none⟩)))
    (h0 : w.cell? ⟨pb, po, none⟩ = some c0) (h1 : w.cell? ⟨pb, po + 1, none⟩ = some c1) (h2 : w.cell? ⟨pb, po + 2, none⟩ = some c2) (hA : AIn w w.heap.size c0 c1 c2 root) (hs : root.t.size ≤ 1000000) :
    Calls Tryd.prog 49 #[.func (.func 51) #[] #[.pointer (some ⟨cn, 0, none⟩)]] w fun e w' => Nu w w' ∧ ∃ v xs, e = .returned v ∧ xs.length ≤ 4000000000000 ∧ NmS root xs ∧ w'.ownsRow (w.heap.size + 1) 9 1 v xs.length (strV xs) := by
  have H := hid (AppendSeq_any w cn pb po hpl c0 c1 c2 root hc h0 h1 h2 hA hs)
  clear hc h0 h1 h2 hA hs
  go_enter Tryd.func49, Tryd.ntmps49
  go_wp2_with fail
  refine Calls.mono H.out ?_
  rintro e w1 ⟨hn, v, xs, rfl, g0, g1, g2⟩
  obtain ⟨ao, cap, rfl⟩ := row_len g2
  have HG := hid (And.intro hn (And.intro g0 (And.intro g1 g2)))
  clear hn g0 g1 g2
  go_wp2_with fail
  go_ret
  exact ⟨HG.out.1, _, xs, rfl, HG.out.2.1, HG.out.2.2.1, HG.out.2.2.2⟩

/-- What Sorted leaves: the same texts, sorted. -/
def SortOut (root : A) (w : World) (e : Ending) (w' : World) : Prop := Nu w w' ∧ ∃ v xs, e = .returned v ∧ xs.length ≤ 4000000000000 ∧ NmS root xs ∧ w'.ownsRow (w.heap.size + 1) 9 1 v xs.length (strV (xs.mergeSort fun x y => decide (x ≤ y)))

set_option maxHeartbeats 1000000 in
theorem Sorted_any (w : World) (cn pb po : Nat) (hpl : pb < w.heap.size) (c0 c1 c2 : Value) (root : A) (hc : w.cell? ⟨cn, 0, none⟩ = some (.pointer (some ⟨pb, po, none⟩)))
    (h0 : w.cell? ⟨pb, po, none⟩ = some c0) (h1 : w.cell? ⟨pb, po + 1, none⟩ = some c1) (h2 : w.cell? ⟨pb, po + 2, none⟩ = some c2) (hA : AIn w w.heap.size c0 c1 c2 root) (hs : root.t.size ≤ 1000000) :
    Calls Tryd.prog 30 #[.func (.func 51) #[] #[.pointer (some ⟨cn, 0, none⟩)]] w (SortOut root w) := by
  have H := hid (Collect_any w cn pb po hpl c0 c1 c2 root hc h0 h1 h2 hA hs)
  clear hc h0 h1 h2 hA hs
  go_enter Tryd.func30, Tryd.ntmps30
  go_wp2_with fail
  refine Calls.mono H.out ?_
  rintro e w1 ⟨hn, v, xs, rfl, g0, g1, g2⟩
  rcases g2.2 with ⟨hv, hxe⟩ | ⟨g, cap, cur, hv, hbase, hb, q1, q2, q3, q4⟩
  · have hx0 : xs = [] := List.length_eq_zero_iff.1 (by simpa using hxe)
    subst hx0
    have HG := hid (And.intro hn (And.intro g1 g2))
    clear hn g1 g2
    rw [hv]
    rw [hv] at HG
    go_wp2_with fail
    refine Calls.mono (Tryd.slices_Sort_string_none _ _ _) ?_
    rintro e w2 ⟨rfl, rfl⟩
    go_wp2_with fail
    go_ret
    exact ⟨HG.out.1, _, [], rfl, by simp, HG.out.2.1, by simp [strV]; exact HG.out.2.2⟩
  · subst hv
    have HG := hid (And.intro hn (And.intro g0 g1))
    have hlx : xs.length < 4611686018427387904 := by omega
    have hH : Holds encStr w1 g 0 xs.toArray := holds_of_block hb (by rw [Nat.mul_one] at q4; exact q4)
    have HC := hid (Tryd.slices_Sort_string g 0 cap xs w1 hH (lt_of_block hb) hlx)
    have HB := hid (And.intro hbase (And.intro hb (And.intro q1 (And.intro q2 q3))))
    clear hn g1 g2 hbase hb q1 q2 q3 q4 hH
    go_wp2_with fail
    refine Calls.mono HC.out ?_
    rintro e w2 ⟨rfl, n, os, hw2⟩
    have hgr : w1.grownBy w2 (some g) := by rw [hw2]; exact grownBy_sorted _
    have how : w2.ownsRow (w.heap.size + 1) 9 1 (.slice (some ⟨g, 0, none⟩) xs.length cap) xs.length (strV (xs.mergeSort fun x y => decide (x ≤ y))) := by
      rw [hw2, strV_enc]
      exact ownsRow_sorted (ss := xs) (by simp) HB.out.1 HB.out.2.1 HB.out.2.2.1 HB.out.2.2.2.1 HB.out.2.2.2.2
    have HE := hid (And.intro hgr how)
    clear hw2 hgr how
    go_wp2_with fail
    go_ret
    refine ⟨HG.out.1.trans (Mv.grown HE.out.1) (fun x hx => .inr ?_), _, xs, rfl, HG.out.2.1, HG.out.2.2, HE.out.2⟩
    have e1 : g = x := by injection hx
    have := HB.out.1
    omega

theorem names_any' (p : Option Addr) (w : World) : Calls Tryd.prog 31 #[.pointer p] w fun e w' => e = .returned (.func (.func 51) #[] #[.pointer (some ⟨w.heap.size, 0, none⟩)]) ∧ w' = w.alloc (.cells #[.pointer p] 49) := by
  go_enter Tryd.func31, Tryd.ntmps31
  go_wp2
  go_ret
  simp

theorem mem_nms (n : Wd) (l : List T) : n ∈ nms l ↔ ∃ t ∈ l, n ∈ nm t := by
  induction l with
  | nil => simp [nms]
  | cons a l ih => simp [nms, ih]

theorem A.names_subs (n : Wd) : ∀ a : A, (n ∈ nm a.t) ↔ ∃ x ∈ a.subs, x.kind = 3 ∧ x.name = n := by
  refine A.ind fun k m b o c l ih => ?_
  have hl : n ∈ nms (A.ts l) ↔ ∃ x ∈ A.subss l, x.kind = 3 ∧ x.name = n := by
    clear k m b o c
    induction l with
    | nil => simp [A.ts, nms, A.subss]
    | cons a l ih2 =>
      have h1 := ih a (by simp)
      have h2 := ih2 (fun x hx => ih x (by simp [hx]))
      simp only [A.ts, nms, A.subss, List.mem_append, h1, h2]
      constructor
      · rintro (⟨x, hx, h⟩ | ⟨x, hx, h⟩)
        · exact ⟨x, .inl hx, h⟩
        · exact ⟨x, .inr hx, h⟩
      · rintro ⟨x, hx | hx, h⟩
        · exact .inl ⟨x, hx, h⟩
        · exact .inr ⟨x, hx, h⟩
  simp only [A.t, nm, A.subs, List.mem_append, hl, List.mem_cons]
  constructor
  · rintro (h | ⟨x, hx, h⟩)
    · split at h
      · rename_i hk
        exact ⟨_, .inl rfl, hk, (List.mem_singleton.1 h).symm⟩
      · cases h
    · exact ⟨x, .inr hx, h⟩
  · rintro ⟨x, rfl | hx, h1, h2⟩
    · left
      have h1' : k = 3 := h1
      rw [if_pos h1']
      exact List.mem_singleton.2 h2.symm
    · exact .inr ⟨x, hx, h1, h2⟩

set_option maxHeartbeats 1000000 in
theorem Names_any' (a : A) (hs : a.t.size ≤ 1000000) (w : World) (c0 c1 c2 : Value) (h : AIn w w.heap.size c0 c1 c2 a) : Calls Tryd.prog 17 #[.agg #[c0, c1, c2]] w fun e w' => Nu w w' ∧ ∃ v, e = .returned v ∧ RowAt w' v (srt (nm a.t)) := by
  obtain ⟨R, hR⟩ : ∃ R, srt (nm a.t) = R := ⟨_, rfl⟩
  have HR := hid hR
  rw [hR]
  clear hR
  obtain ⟨W0, hW0⟩ : ∃ W0, w.alloc (.cells #[c0, c1, c2] 24) = W0 := ⟨_, rfl⟩
  have hB := box3 w c0 c1 c2 24
  rw [hW0] at hB
  have hM : Nu W0 (W0.alloc (.cells #[.pointer (some ⟨w.heap.size, 0, none⟩)] 49)) := Mv.alloc _ _ _
  have hcn := heap_alloc_new W0 (.cells #[.pointer (some ⟨w.heap.size, 0, none⟩)] 49)
  have hsz : w.heap.size < W0.heap.size := by rw [← hW0]; simp
  have HS := hid (Sorted_any (W0.alloc (.cells #[.pointer (some ⟨w.heap.size, 0, none⟩)] 49)) W0.heap.size w.heap.size 0 (by simp; omega) c0 c1 c2 a (by rw [cell_blk hcn]; rfl) (cell_mv hM hB.a0 id) (cell_mv hM hB.a1 id) (cell_mv hM hB.a2 id) (AIn.up (h.mv (mv0 hB.mv hM) (fun _ h => h.elim)) (by simp; omega)) hs)
  have HN := hid (mv0 hB.mv hM)
  clear hM hcn hsz hB h hs
  go_enter Tryd.func17, Tryd.ntmps17
  go_upto_region 1 with fail
  clear hW0
  go_wp2_with fail
  refine Calls.mono (names_any' _ _) ?_
  rintro e w1 ⟨rfl, rfl⟩
  go_wp2_with fail
  refine Calls.mono HS.out ?_
  rintro e w2 ⟨hn, v, xs, rfl, g0, g1, g2⟩
  have HN2 := hid (mv0 HN.out hn)
  have hRx : Lib.compact (xs.mergeSort fun x y => decide (x ≤ y)) = R := by rw [← HR.out]; exact compact_srt (fun x => (g1 x).trans (A.names_subs x a).symm)
  have hlen : (xs.mergeSort fun x y => decide (x ≤ y)).length = xs.length := by simp
  generalize (xs.mergeSort fun x y => decide (x ≤ y)) = ys at g2 hRx hlen
  rw [← hlen] at g2 g0
  rcases g2.2 with ⟨hv, hxe⟩ | ⟨g, cap, cur, hv, hbase, hb, q1, q2, q3, q4⟩
  · have hx0 : ys = [] := List.length_eq_zero_iff.1 (by simpa using hxe)
    have hRe : R = [] := by rw [← hRx, hx0]; rfl
    have HRe := hid hRe
    clear hn g0 g1 g2 hxe hRx hlen HR hRe
    rw [hv]
    go_wp2_with fail
    refine Calls.mono (Tryd.slices_Compact_string_empty _ _ _) ?_
    rintro e w3 ⟨rfl, rfl⟩
    go_wp2_with fail
    go_ret
    exact ⟨HN2.out, _, rfl, none, 0, by rw [HRe.out]; rfl, .inl HRe.out⟩
  · subst hv
    have hH : Go.Sort.Holds encStr w2 g 0 ys.toArray := holds_of_block hb (by rw [Nat.mul_one] at q4; exact q4)
    have HC := hid (Tryd.slices_Compact_string g 0 cap ys w2 hH (by omega) q1)
    rw [hRx] at HC
    have hRl : R.length ≤ ys.length := by
      rw [← hRx]
      unfold Lib.compact Lib.compactUpTo
      rw [List.length_map]
      exact Nat.le_trans (List.length_filter_le _ _) (by simp)
    have HB := hid (And.intro hbase (And.intro hb (And.intro hH hRl)))
    clear hn g0 g1 g2 hbase hb q1 q2 q3 q4 hH hRx hRl HR hlen
    go_wp2_with fail
    refine Calls.mono HC.out ?_
    rintro e w3 ⟨rfl, q, hw3⟩
    have hsz3 : (R ++ List.replicate (ys.length - R.length) []).toArray.size = ys.toArray.size := by have := HB.out.2.2.2; simp; omega
    have hHo := holds_putRow encStr (Go.Sort.ahead w2 q) g 0 ys.toArray (R ++ List.replicate (ys.length - R.length) []).toArray HB.out.2.2.1 hsz3
    have hgr : w2.grownBy w3 (some g) := by
      have := grownBy_sorted (w := w2) (g := g) (n := q) (os := #[]) (R ++ List.replicate (ys.length - R.length) []).toArray
      rw [hw3]
      simpa using this
    rw [← hw3] at hHo
    have HO := hid (And.intro hHo hgr)
    clear hw3 hHo hgr hsz3
    go_wp2_with fail
    go_ret
    refine ⟨HN2.out.trans (Mv.grown HO.out.2) (fun x hx => .inr ?_), _, rfl, some ⟨g, 0, none⟩, cap, rfl, .inr ⟨_, rfl, fun j n hn => ?_⟩⟩
    · have e1 : g = x := by injection hx
      have := HB.out.1
      have := HN.out.size
      omega
    · have hj : j < R.length := (List.getElem?_eq_some_iff.1 hn).1
      have h1 := (HO.out.1 j (by simp; omega)).1
      rw [add_at, h1, getElem!_pos _ j (by simp; omega)]
      obtain ⟨_, rfl⟩ := List.getElem?_eq_some_iff.1 hn
      simp [List.getElem_append_left hj]
      rfl
end Go.Proofs.YtidihaecgmbhpabDoor
