/-
  A graph as a system: the program's Begin and Look.
-/
import Derived.Test.YtlgljpbbooeanaaNMove
set_option linter.unusedVariables false
set_option linter.unusedSimpArgs false
namespace Go.Proofs.Ytlgljpbbooeanaa
open Go.RowKit

theorem ints_one {w : World} {b : Nat} {n : Nat} {t : TypeId} (h : w.heap[b]? = some (.cells #[.int .i64 (n : Int)] t (0, 0))) : IntsAt w w.heap.size (some ⟨b, 0, none⟩) (ints [n]) := by
  refine ⟨(show (1 : Int) ≤ 17592186044416 by decide), .inr ⟨b, 0, rfl, lt_of_block h, fun i hi => ?_⟩⟩
  obtain rfl : i = 0 := by simp [ints] at hi; omega
  exact cell_blk h 0

theorem encs_one (n : Nat) : encs [n] = encU n := by simp [encs]
theorem cells4 {w : World} {b : Nat} {t : TypeId} {v0 v1 v2 v3 : Value} (h : w.heap[b]? = some (.cells #[v0, v1, v2, v3] t (0, 0))) : w.cell? ⟨b, 0, none⟩ = some v0 ∧ w.cell? ⟨b, 1, none⟩ = some v1 ∧ w.cell? ⟨b, 2, none⟩ = some v2 ∧ w.cell? ⟨b, 3, none⟩ = some v3 :=
  ⟨cell_blk h 0, cell_blk h 1, cell_blk h 2, cell_blk h 3⟩
theorem set4 {w : World} {b : Nat} {t : TypeId} {z0 z1 z2 z3 v0 v1 v2 v3 : Value} (h : w.heap[b]? = some (.cells #[z0, z1, z2, z3] t (0, 0))) :
    ((((w.setCell ⟨b, 0, none⟩ v0).setCell ⟨b, 1, none⟩ v1).setCell ⟨b, 2, none⟩ v2).setCell ⟨b, 3, none⟩ v3).heap[b]? = some (.cells #[v0, v1, v2, v3] t (0, 0)) ∧ Mv (· = b) w ((((w.setCell ⟨b, 0, none⟩ v0).setCell ⟨b, 1, none⟩ v1).setCell ⟨b, 2, none⟩ v2).setCell ⟨b, 3, none⟩ v3) := by
  have h0 := setCell_blk (i := 0) (u := v0) h
  have h1 := setCell_blk (i := 1) (u := v1) h0
  have h2 := setCell_blk (i := 2) (u := v2) h1
  have h3 := setCell_blk (i := 3) (u := v3) h2
  simp only [List.setIfInBounds_toArray, List.set_cons_succ, List.set_cons_zero] at h3
  refine ⟨h3, ?_⟩
  have m (W : World) (i : Nat) (u : Value) : Mv (· = b) W (W.setCell ⟨b, i, none⟩ u) := Mv.setCell W ⟨b, i, none⟩ u
  have t2 {A B C : World} (h : Mv (· = b) A B) (k : Mv (· = b) B C) : Mv (· = b) A C := h.trans k (fun _ h => .inl h)
  exact t2 (t2 (t2 (m _ _ _) (m _ _ _)) (m _ _ _)) (m _ _ _)
theorem look_some {ns : List Node} {nxs : List NX} {st : ByteArray} {k : Nat} (he : nxs.map NX.nd = ns) (hn : nodeNo ns.length st = some k) (hk : k < nxs.length) : (graphSem ns).look st = ⟨nxs[k].nd.props, nxs[k].nd.en, nxs[k].nd.pr, nxs[k].nd.ac⟩ := by
  have : ns[k]? = some nxs[k].nd := by rw [← he, List.getElem?_map, List.getElem?_eq_getElem hk]; rfl
  simp [graphSem, hn, this]

theorem Begin_any (w : World) (r : Value) (ns : List Node) : Calls Try.prog 66 #[r] w fun e w' => e = .returned (.string (graphSem ns).begin) ∧ Nu w w' := by
  go_enter Try.func66, Try.ntmps66
  have HN : Hid (Nu w (w.alloc (.cells #[.int .i64 ((0 : Nat) : Int)] 3))) := Mv.alloc _ _ _
  have HI : Hid (IntsAt (w.alloc (.cells #[.int .i64 ((0 : Nat) : Int)] 3)) (w.alloc (.cells #[.int .i64 ((0 : Nat) : Int)] 3)).heap.size (some ⟨w.heap.size, 0, none⟩) (ints [0])) := ints_one (heap_alloc_new w _)
  go_wp2_with (go_at_call 69; refine (bytesOf_walk _ _ _ 1 [0] HI.out (by intro m hm; rw [List.mem_singleton.1 hm]; decide) (show 1 ≤ 1000 by decide)).mono ?_; rintro e w11 ⟨rfl, hn11⟩)
  go_ret
  refine ⟨?_, mv0 HN.out hn11⟩
  show Ending.returned (.string (txt (encs [0]))) = _
  rw [encs_one]
  rfl

set_option maxHeartbeats 4000000 in
set_option maxRecDepth 40000 in
theorem Look_any (w : World) (F : Nat → Prop) (gb g nc rb : Nat) (ns : List Node) (nxs : List NX) (h : GraphIs w F gb ns g nc rb nxs) (st : ByteArray) (hst : Short st) : Calls Try.prog 67 #[.pointer (some ⟨gb, 0, none⟩), .string st] w fun e w' => e = .returned (sval ((graphSem ns).look st)) ∧ Nu w w' := by
  have HG := hid h
  have HST := hid hst
  have g0 := cell_blk h.blk 0
  have g1 := cell_blk h.blk 1
  simp only [List.size_toArray, List.length_cons, List.length_nil, Nat.reduceAdd, Nat.lt_add_one, Nat.reduceLT, getElem?_pos, List.getElem_toArray, List.getElem_cons_zero, List.getElem_cons_succ, Nat.zero_lt_succ] at g0 g1
  have hl := h.len
  have hl1 : (ns.length : Int) ≤ 20000 := by omega
  clear h hst
  go_enter Try.func67, Try.ntmps67
  go_upto_region 1 with fail
  have HN1 : Hid (Nu w (w.alloc (.cells #[.int .u64 0, .bool false, .bool false, .bool false] 40))) := Mv.alloc _ _ _
  have HA1 : Hid ((w.alloc (.cells #[.int .u64 0, .bool false, .bool false, .bool false] 40)).heap[w.heap.size]? = some (.cells #[.int .u64 0, .bool false, .bool false, .bool false] 40 (0, 0))) := heap_alloc_new w _
  generalize w.alloc (.cells #[.int .u64 0, .bool false, .bool false, .bool false] 40) = w1 at *
  replace g0 := cell_mv HN1.out g0 id
  replace g1 := cell_mv HN1.out g1 id
  have HI := hid (ints_one (HN1.out.heap HG.out.rblk id))
  go_upto_region 2 with (go_at_call 70; refine (numbers_any _ _ _ 1 [ns.length] HI.out (by intro m hm; rw [List.mem_singleton.1 hm]; exact HG.out.len.2) (show 1 ≤ 1000 by decide) st HST.out).mono ?_; rintro e w2 ⟨hn2, hcase⟩; have HN2 := hid hn2; rw [nums_one _ HG.out.len.2] at hcase; rcases hcase with ⟨hno, rfl⟩ | ⟨l, ao', cap', hno, rfl, hown⟩)
  · have HL : Hid ((graphSem ns).look st = ⟨0, false, false, false⟩) := by
      have : nodeNo ns.length st = none := by simpa using hno
      show _ = _
      simp [graphSem, this]
    have HA2 := hid (HN2.out.heap HA1.out id)
    obtain ⟨q0, q1, q2, q3⟩ := cells4 HA2.out
    have z0 := free_blk HA2.out 0
    have z1 := free_blk HA2.out 1
    have z2 := free_blk HA2.out 2
    have z3 := free_blk HA2.out 3
    clear hno g0 g1 hn2
    go_wp2
    obtain ⟨hset, hmset⟩ := set4 (v0 := .int .u64 0) (v1 := .bool false) (v2 := .bool false) (v3 := .bool false) HA2.out
    refine bodyPost_ret (results_cell_row rfl _ _ w.heap.size 40 _ (0, 0) _ rfl hset Try.underlying40 rfl (by kernel_rfl)) rfl ⟨by rw [HL.out]; rfl, ?_⟩
    exact (mv0 HN1.out HN2.out).trans hmset (fun x hx => .inr (by omega))
  · obtain ⟨k, hk, rfl⟩ := Option.map_eq_some_iff.1 hno
    have hnl : nxs.length = ns.length := by rw [← HG.out.eq, List.length_map]
    have hkl : k < nxs.length := by rw [hnl]; exact (nodeNo_some hk).1
    have HL := hid (look_some HG.out.eq hk hkl)
    have hat := HG.out.nat k hkl
    have n1 := hat.c1
    have n2 := hat.c2
    have n3 := hat.c3
    have n4 := hat.c4
    clear hat
    have hko : OwnI w2 w1.heap.size ao' cap' (ints [k]) := hown
    have hk0 : w2.cell? ((⟨0, 0, none⟩ : Addr)) = w2.cell? ((⟨0, 0, none⟩ : Addr)) := rfl
    obtain ⟨b3, off3, rfl, c3⟩ : ∃ b3 off3, ao' = some ⟨b3, off3, none⟩ ∧ w2.cell? ⟨b3, off3, none⟩ = some (.int .i64 (k : Int)) := by
      rcases hko.at.row with h0 | ⟨b3, off3, h1, _, hit⟩
      · simp [ints] at h0
      · exact ⟨b3, off3, h1, hit 0 (by simp [ints])⟩
    have hkn : (k : Int) < (ns.length : Int) := by have := (nodeNo_some hk).1; omega
    have HA2 := hid (HN2.out.heap HA1.out id)
    generalize nxs[k].nd = x at *
    clear hno hown hko hk0 hk hkl hnl hn2
    replace g0 := cell_mv HN2.out g0 id
    replace g1 := cell_mv HN2.out g1 id
    replace n1 := cell_mv (mv0 HN1.out HN2.out) n1 id
    replace n2 := cell_mv (mv0 HN1.out HN2.out) n2 id
    replace n3 := cell_mv (mv0 HN1.out HN2.out) n3 id
    replace n4 := cell_mv (mv0 HN1.out HN2.out) n4 id
    simp only [List.length_singleton]
    go_upto_region 4 with fail
    go_quiet (fail)
    go_upto_region 5 with fail
    obtain ⟨q0, q1, q2, q3⟩ := cells4 HA2.out
    have z0 := free_blk HA2.out 0
    have z1 := free_blk HA2.out 1
    have z2 := free_blk HA2.out 2
    have z3 := free_blk HA2.out 3
    go_region
    go_wp2
    obtain ⟨hset, hmset⟩ := set4 (w := (w2.drewN nq).drew) (v0 := .int .u64 x.props) (v1 := .bool x.en) (v2 := .bool x.pr) (v3 := .bool x.ac) HA2.out
    refine bodyPost_ret (results_cell_row rfl _ _ w.heap.size 40 _ (0, 0) _ rfl hset Try.underlying40 rfl (by kernel_rfl)) rfl ⟨by rw [HL.out]; rfl, ?_⟩
    exact (mv0 (mv0 HN1.out HN2.out) (mv0 (nu_drewN' w2 nq) (Mv.drew _ _))).trans hmset (fun x hx => .inr (by omega))

end Go.Proofs.Ytlgljpbbooeanaa
