/-
  GLook, GNext.
-/
import Derived.Test.YtkjalclplfdpmaaM14
import Derived.Test.YtkjalclplfdpmaaM23
import Derived.Test.YtkjalclplfdpmaaM30
import Derived.Test.YtkjalclplfdpmaaM36
/-
  The reference's Look.
-/
set_option linter.unusedVariables false
set_option linter.unusedSimpArgs false
namespace Go.Proofs.Ytkjalclplfdpmaa
open Go.RowKit

theorem sem_none {ns : List Node} {st : ByteArray} (h : nodeNo ns.length st = none) : (graphSem ns).look st = ⟨0, false, false, false⟩ ∧ (graphSem ns).next st = [] := by simp [graphSem, h]
theorem sem_some {ns : List Node} {st : ByteArray} {n : Nat} (h : nodeNo ns.length st = some n) (hn : n < ns.length) : (graphSem ns).look st = ⟨ns[n].props, ns[n].en, ns[n].pr, ns[n].ac⟩ ∧ (graphSem ns).next st = movsOf ns[n].arcs := by simp [graphSem, h, List.getElem?_eq_getElem hn]

def RLk (nb b off n len cap g cp H : Nat) (v0 : Value) (x : Node) : Nat → World → Value → Prop
  | 0, _, v => v = .pointer (some ⟨nb, 0, none⟩)
  | 1, _, v => v = .slice (some ⟨b, off, none⟩) len cap
  | 2, _, v => v = .slice (some ⟨g, 0, none⟩) 1 cp
  | 3, _, v => v = .pointer (some ⟨g, 0, none⟩)
  | 4, _, v => v = .int .i64 (n : Int)
  | 5, _, v => v = .pointer (some ⟨b, off + n * 5, none⟩)
  | 6, _, v => v = .agg #[v0, .int .u64 x.props, .bool x.en, .bool x.pr, .bool x.ac]
  | 7, w, v => ∃ ob, v = .pointer (some ⟨ob, 0, none⟩) ∧ w.heap[ob]? = some (.cells #[.slice none 0 0, .int .u64 0, .bool false, .bool false, .bool false] 48 (0, 0)) ∧ H ≤ ob
  | _, _, v => v = undef
theorem RLk.nu {nb b off n len cap g cp H : Nat} {v0 : Value} {x : Node} : ∀ (i : Nat) (w w' : World) (v : Value), Nu w w' → RLk nb b off n len cap g cp H v0 x i w v → RLk nb b off n len cap g cp H v0 x i w' v := by
  intro i w w' v hn h
  unfold RLk at h ⊢
  split <;> simp only at h <;> first
    | exact h
    | (obtain ⟨nb, h1, h2, h3⟩ := h; exact ⟨nb, h1, hn.heap h2 id, h3⟩)

set_option maxHeartbeats 4000000 in
set_option maxRecDepth 40000 in
theorem rLook_any (w : World) (ao : Option Addr) (cap : Nat) (ns : List Node) (h : NodesAt w w.heap.size ao ns) (hl : ns.length ≤ 20000) (st : ByteArray) (hst : Short st) : Calls Try.prog 12 #[.agg #[.slice ao ns.length cap], .string st] w fun e w' => e = .returned (sval ((graphSem ns).look st)) ∧ Nu w w' := by
  have HNS := hid h
  have HST := hid hst
  have HL := hid hl
  have hl1 : (ns.length : Int) ≤ 20000 := by omega
  clear h hst hl
  have HN1 : Hid (Nu w ((w.alloc (.cells #[.slice ao ns.length cap] 24)).alloc (.cells #[.int .u64 0, .bool false, .bool false, .bool false] 40))) := mv0 (Mv.alloc _ _ _) (Mv.alloc _ _ _)
  have HA1 : Hid (((w.alloc (.cells #[.slice ao ns.length cap] 24)).alloc (.cells #[.int .u64 0, .bool false, .bool false, .bool false] 40)).heap[w.heap.size + 1]? = some (.cells #[.int .u64 0, .bool false, .bool false, .bool false] 40 (0, 0))) := by
    have := heap_alloc_new (w.alloc (.cells #[.slice ao ns.length cap] 24)) (.cells #[.int .u64 0, .bool false, .bool false, .bool false] 40)
    rwa [World.size_alloc] at this
  have HB1 : Hid (((w.alloc (.cells #[.slice ao ns.length cap] 24)).alloc (.cells #[.int .u64 0, .bool false, .bool false, .bool false] 40)).cell? ⟨w.heap.size, 0, none⟩ = some (.slice ao ns.length cap)) := cell_mv (Mv.alloc (fun _ => False) _ _) (cell_blk (heap_alloc_new w _) 0) id
  go_enter Try.func12, Try.ntmps12
  go_upto_region 1 with fail
  generalize (w.alloc (.cells #[.slice ao ns.length cap] 24)).alloc (.cells #[.int .u64 0, .bool false, .bool false, .bool false] 40) = w1 at *
  go_upto_region 2 with (go_at_call 26; refine (rNumbers_any _ st HST.out).mono ?_; rintro e w2 ⟨hn2, hcase⟩; have HN2 := hid hn2; clear hn2; rcases hcase with ⟨v, rfl, hno⟩ | ⟨g, cp, n, rfl, c3, hn, hno⟩)
  · have HLK := hid (sem_none (hno _ HL.out)).1
    have HA2 := hid (HN2.out.heap HA1.out id)
    clear hno
    go_wp2
    go_quiet (fail)
    obtain ⟨q0, q1, q2, q3⟩ := cells4 HA2.out
    have z0 := free_blk HA2.out 0
    have z1 := free_blk HA2.out 1
    have z2 := free_blk HA2.out 2
    have z3 := free_blk HA2.out 3
    go_wp2
    obtain ⟨hset, hmset⟩ := set4 (w := w2.drewN nq) (v0 := .int .u64 0) (v1 := .bool false) (v2 := .bool false) (v3 := .bool false) HA2.out
    refine bodyPost_ret (results_cell_row rfl _ _ (w.heap.size + 1) 40 _ (0, 0) _ rfl hset Try.underlying40 rfl (by kernel_rfl)) rfl ⟨by rw [HLK.out]; rfl, ?_⟩
    exact (mv0 (mv0 HN1.out HN2.out) (nu_drewN' w2 nq)).trans hmset (fun x hx => .inr (by omega))
  · have HA2 := hid (HN2.out.heap HA1.out id)
    have d1 := cell_mv HN2.out HB1.out id
    obtain ⟨q0, q1, q2, q3⟩ := cells4 HA2.out
    have z0 := free_blk HA2.out 0
    have z1 := free_blk HA2.out 1
    have z2 := free_blk HA2.out 2
    have z3 := free_blk HA2.out 3
    rcases Nat.lt_or_ge n ns.length with hlt | hge
    · have hlt' : (n : Int) < (ns.length : Int) := by omega
      have hge' : ¬ (ns.length : Int) ≤ (n : Int) := by omega
      have hgd : decide ((ns.length : Int) ≤ (n : Int)) = false := by simpa using hge'
      have hnn := hno _ HL.out
      rw [if_pos hlt] at hnn
      have HLK := hid (sem_some hnn hlt).1
      rcases (HNS.out.below (mv0 HN1.out HN2.out).nu_below (mv0 HN1.out HN2.out).size).row with h0 | ⟨b, off, rfl, hb, hit⟩
      · omega
      obtain ⟨⟨v0, n0, aa, ac, rfl, i0⟩, n1, n2, n3, n4⟩ := hit n hlt
      have HLT := hid hlt
      generalize ns[n] = x at *
      clear hno hit hlt hnn hn i0 q0 q1 q2 q3 z0 z1 z2 z3
      go_wp2
      go_quiet (fail)
      go_upto_region 4 with fail
      have HNQ : Hid (Nu w2 (w2.drewN nq)) := nu_drewN' w2 nq
      generalize w2.drewN nq = w3 at *
      replace d1 := cell_mv HNQ.out d1 id
      replace c3 := cell_mv HNQ.out c3 id
      replace n0 := cell_mv HNQ.out n0 id
      replace n1 := cell_mv HNQ.out n1 id
      replace n2 := cell_mv HNQ.out n2 id
      replace n3 := cell_mv HNQ.out n3 id
      replace n4 := cell_mv HNQ.out n4 id
      clear hgd
      rename_i KC hKC
      refine wp_lookS (RLk w.heap.size b off n ns.length cap g cp w3.heap.size (.slice aa x.arcs.length ac) x) RLk.nu (by kernel_rfl) (by kernel_rfl) ?step ?last
      case step =>
        intro i p d a w' ho hd hn hfr had K hK
        have hi : i < 9 := (Array.getElem?_eq_some_iff.1 ho).1
        have f2 := hfr 2 (by kernel_rfl)
        have f5 := hfr 5 (by kernel_rfl)
        have : i = 0 ∨ i = 1 ∨ i = 2 ∨ i = 3 ∨ i = 4 ∨ i = 5 ∨ i = 6 ∨ i = 7 ∨ i = 8 := by omega
        rcases this with rfl | rfl | rfl | rfl | rfl | rfl | rfl | rfl | rfl <;> cases ho <;> cases hd
        · exact ite_yes (want_none rfl) (lk_fieldNet0 rfl rfl f2 (fun w' hm => hK w' _ hm rfl))
        · obtain ⟨⟨_, h0, rfl⟩, _⟩ := had; exact ite_yes (want_none rfl) (lk_loadNs rfl rfl h0 (cell_mv hn d1 id) (fun w' hm => hK w' _ hm rfl))
        · exact ite_yes (want_none rfl) (lk_move rfl rfl f5 (fun w' hm => hK w' _ hm rfl))
        · obtain ⟨⟨_, h0, rfl⟩, _⟩ := had; exact ite_yes (want_none rfl) (lk_idxI0 rfl rfl h0 (fun w' hm => hK w' _ hm rfl))
        · obtain ⟨⟨_, h0, rfl⟩, _⟩ := had; exact ite_yes (want_none rfl) (lk_loadN rfl rfl h0 (cell_mv hn c3 id) (fun w' hm => hK w' _ hm rfl))
        · obtain ⟨⟨_, h0, rfl⟩, ⟨_, h1, rfl⟩, _⟩ := had; exact ite_yes (want_none rfl) (lk_idxNs HLT.out rfl rfl h0 h1 (fun w' hm => hK w' _ hm rfl))
        · obtain ⟨⟨_, h0, rfl⟩, _⟩ := had; exact ite_yes (want_none rfl) (lk_loadNode rfl rfl h0 (cell_mv hn n0 id) (cell_mv hn n1 id) (cell_mv hn n2 id) (cell_mv hn n3 id) (cell_mv hn n4 id) (fun w' hm => hK w' _ hm rfl))
        · exact ite_yes (want_none rfl) (lk_allocN rfl rfl (hK _ _ (Mv.alloc _ _ _) ⟨_, rfl, heap_alloc_new _ _, hn.size⟩))
      case last =>
        intro p a w5 ho hn5 hdf hsz hfr htv
        cases ho
        obtain ⟨v6, t6, hv6⟩ := htv 6 _ 31 rfl rfl
        obtain rfl : v6 = _ := hv6
        obtain ⟨v7, t7, ob, rfl, hob, hobl⟩ := htv 7 _ 7 rfl rfl
        have htm := fill_eq (vals := fun i => ([.pointer (some ⟨w.heap.size, 0, none⟩), .slice (some ⟨b, off, none⟩) ns.length cap, .slice (some ⟨g, 0, none⟩) 1 cp, .pointer (some ⟨g, 0, none⟩), .int .i64 (n : Int), .pointer (some ⟨b, off + n * 5, none⟩), .agg #[.slice aa x.arcs.length ac, .int .u64 x.props, .bool x.en, .bool x.pr, .bool x.ac], .pointer (some ⟨ob, 0, none⟩)] : List Value).getD i undef) (by kernel_rfl) hfr (fun i p d hi hd => by
          have hi' : i < 9 := (Array.getElem?_eq_some_iff.1 hi).1
          obtain ⟨v, h, hv⟩ := htv i p d hi hd
          have : i = 0 ∨ i = 1 ∨ i = 2 ∨ i = 3 ∨ i = 4 ∨ i = 5 ∨ i = 6 ∨ i = 7 ∨ i = 8 := by omega
          rcases this with rfl | rfl | rfl | rfl | rfl | rfl | rfl | rfl | rfl <;> cases hi <;> cases hd <;> first | exact t6 | exact t7 | exact h.trans (congrArg some hv))
        refine lk_storeN rfl rfl t7 t6 hob (fun w6 hb6 hm6 => ?_)
        refine hKC _ _ ?_
        have HN6 : Hid (Nu w3 w6) := hn5.trans hm6 (fun x hx => .inr (by omega))
        have HB6 := hid hb6
        rw [act_eq' htm hdf]
        clear htm hdf hn5 hsz hfr htv t6 t7 hob hb6 hm6 hobl hKC
        simp only [fill, List.getD_cons_succ, List.getD_cons_zero, List.setIfInBounds_toArray, List.set_cons_succ, List.set_cons_zero]
        have HN9 := hid (mv0 (mv0 (mv0 HN1.out HN2.out) HNQ.out) HN6.out)
        have HA6 := hid (HN6.out.heap (HNQ.out.heap HA2.out id) id)
        obtain ⟨p0, p1, p2, p3, p4⟩ := cells5 HB6.out
        obtain ⟨q0, q1, q2, q3⟩ := cells4 HA6.out
        have z0 := free_blk HA6.out 0
        have z1 := free_blk HA6.out 1
        have z2 := free_blk HA6.out 2
        have z3 := free_blk HA6.out 3
        clear d1 c3 n0 n1 n2 n3 n4
        go_wp2
        obtain ⟨hset, hmset⟩ := set4 (w := w6) (v0 := .int .u64 x.props) (v1 := .bool x.en) (v2 := .bool x.pr) (v3 := .bool x.ac) HA6.out
        refine bodyPost_ret (results_cell_row rfl _ _ (w.heap.size + 1) 40 _ (0, 0) _ rfl hset Try.underlying40 rfl (by kernel_rfl)) rfl ⟨by rw [HLK.out]; rfl, ?_⟩
        exact HN9.out.trans hmset (fun x hx => .inr (by omega))
    · have hge' : (ns.length : Int) ≤ (n : Int) := by omega
      have hgd : decide ((ns.length : Int) ≤ (n : Int)) = true := by simpa using hge'
      have hnn := hno _ HL.out
      rw [if_neg (by omega)] at hnn
      have HLK := hid (sem_none hnn).1
      clear hno hge hnn hn
      go_wp2
      go_quiet (fail)
      go_wp2
      obtain ⟨hset, hmset⟩ := set4 (w := w2.drewN nq) (v0 := .int .u64 0) (v1 := .bool false) (v2 := .bool false) (v3 := .bool false) HA2.out
      refine bodyPost_ret (results_cell_row rfl _ _ (w.heap.size + 1) 40 _ (0, 0) _ rfl hset Try.underlying40 rfl (by kernel_rfl)) rfl ⟨by rw [HLK.out]; rfl, ?_⟩
      exact (mv0 (mv0 HN1.out HN2.out) (nu_drewN' w2 nq)).trans hmset (fun x hx => .inr (by omega))

end Go.Proofs.Ytkjalclplfdpmaa
/-
  The reference's Next.
-/
set_option linter.unusedVariables false
set_option linter.unusedSimpArgs false
namespace Go.Proofs.Ytkjalclplfdpmaa
open Go.RowKit

/-- What Next answers. -/
def NextOut (w : World) (ms : List Mov) (e : Ending) (w' : World) : Prop :=
  Nu w w' ∧ ∃ vo vc xs, e = .returned (.slice vo (List.length (α := X) xs) vc) ∧ xs.map X.m = ms ∧ w'.ownsRow w.heap.size 70 9 (.slice vo xs.length vc) xs.length (xflat xs) ∧ ∀ x ∈ xs, XOwn w' w.heap.size x

/-- Moves under way. -/
structure NxI (w wr : World) (ms : List Mov) (pre : List X) (v : Value) : Prop where
  nu : Nu w wr
  row : wr.ownsRow w.heap.size 70 9 v pre.length (xflat pre)
  own : ∀ x ∈ pre, XOwn wr w.heap.size x
  pf : pre.map X.m = ms.take pre.length
theorem NxI.go {w wr w' : World} {ms : List Mov} {pre : List X} {v : Value} (h : NxI w wr ms pre v) (hn : Nu wr w') : NxI w w' ms pre v :=
  ⟨mv0 h.nu hn, row_mv hn h.row (fun _ _ => id), fun x hx => (h.own x hx).mv hn (fun _ _ => id) (Nat.le_refl _), h.pf⟩
theorem NxI.step {w w1 w2 : World} {ms : List Mov} {pre : List X} {v v' : Value} {x : X} (h : NxI w w1 ms pre v) (hg : w1.grownBy w2 v.ownBlock) (hr : w2.ownsRow w.heap.size 70 9 v' (pre.length + 1) (xflat pre ++ x.cells)) (hx : ms[pre.length]? = some x.m) (hown : XOwn w1 w.heap.size x) : NxI w w2 ms (pre ++ [x]) v' := by
  have hm2 := Mv.grown hg
  have hty : ∀ y, XOwn w1 w.heap.size y → ∀ b, y.blk b → ¬ v.ownBlock = some b := fun y hy b hb ho => by
    obtain ⟨hge, _, cs, hc⟩ := hy.ge hb
    obtain ⟨_, _, cs', hc'⟩ := row_blk h.row ho
    rw [hc] at hc'
    simp at hc'
  refine ⟨h.nu.trans hm2 (fun b hb => .inr (row_blk h.row hb).1), ?_, fun y hy => ?_, ?_⟩
  · have hl : (pre ++ [x]).length = pre.length + 1 := by simp
    have hf : xflat (pre ++ [x]) = xflat pre ++ x.cells := by rw [xflat_append]; simp [xflat]
    rw [hl, hf]
    exact hr
  · rcases List.mem_append.1 hy with hy | hy
    · exact (h.own y hy).mv hm2 (hty y (h.own y hy)) (Nat.le_refl _)
    · rw [List.mem_singleton.1 hy]; exact hown.mv hm2 (hty x hown) (Nat.le_refl _)
  · rw [List.map_append, h.pf, List.length_append]
    simp only [List.map_cons, List.map_nil, List.length_cons, List.length_nil, Nat.zero_add]
    rw [List.take_add_one, hx]
    rfl
theorem NxI.out {w wr : World} {ms : List Mov} {pre : List X} {v : Value} (h : NxI w wr ms pre v) (hl : ms.length = pre.length) : NextOut w ms (.returned v) wr := by
  obtain ⟨vo, vc, rfl⟩ := row_slice h.row
  exact ⟨h.nu, vo, vc, pre, rfl, by rw [h.pf, ← hl, List.take_length], h.row, h.own⟩

theorem movsOf_length (l : List Arc) : (movsOf l).length = l.length := by simp [movsOf]
theorem movsOf_get {l : List Arc} {k : Nat} (h : k < l.length) : (movsOf l)[k]? = some (movOf k l[k]) := by
  unfold movsOf
  rw [List.getElem?_zipWith, List.getElem?_range h, List.getElem?_eq_getElem h]

theorem arcs_in' {x : Node} : ∀ {ns : List Node}, x ∈ ns → x.arcs.length ≤ arcsIn ns
  | [], h => absurd h (by simp)
  | y :: r, h => by
    rw [arcsIn]
    rcases List.mem_cons.1 h with rfl | h
    · omega
    · have := arcs_in' h; omega
theorem arcB_to {size : Nat} {a : Arc} (h : arcB size a = true) (hs : size ≤ 20000) : ∃ n : Nat, a.to = (n : Int) ∧ n < 20000 := by
  unfold arcB at h
  simp only [Bool.and_eq_true, decide_eq_true_eq] at h
  exact ⟨a.to.toNat, by omega, by omega⟩

/-- Region 10: a move out of an arc. -/
def RN (ab k H : Nat) (a : Arc) (ra : Option Addr) (rc : Nat) (wa : Option Addr) (wc : Nat) : Nat → World → Value → Prop
  | 0, _, v => v = .pointer (some ⟨ab, 0, none⟩)
  | 1, _, v => v = .int .i64 a.proc
  | 2, _, v => v = .int .i64 (k : Int)
  | 3, _, v => v = .pointer (some ⟨ab, 2, none⟩)
  | 4, _, v => v = .int .i64 a.bad
  | 5, _, v => v = .pointer (some ⟨ab, 3, none⟩)
  | 6, _, v => v = .slice ra a.reads.length rc
  | 7, w, v => ∃ ao c, v = .slice ao a.reads.length c ∧ OwnI w H ao c a.reads
  | 8, _, v => v = .pointer (some ⟨ab, 4, none⟩)
  | 9, _, v => v = .slice wa a.writes.length wc
  | 10, w, v => ∃ ao c, v = .slice ao a.writes.length c ∧ OwnI w H ao c a.writes
  | 11, _, v => v = .pointer (some ⟨ab, 5, none⟩)
  | 12, _, v => v = .int .u64 a.turns
  | 13, w, v => ∃ r1 c1 r2 c2, v = .agg #[.int .i64 a.proc, .int .i64 (k : Int), .int .i64 (-1), .int .i64 (-1), .string ⟨#[]⟩, .int .i64 a.bad, .slice r1 a.reads.length c1, .slice r2 a.writes.length c2, .int .u64 a.turns] ∧ OwnI w H r1 c1 a.reads ∧ OwnI w H r2 c2 a.writes
  | 14, w, v => ∃ ob, v = .pointer (some ⟨ob, 0, none⟩) ∧ w.heap[ob]? = some (.cells #[.int .i64 0, .int .i64 0, .int .i64 0, .int .i64 0, .string ⟨#[]⟩, .int .i64 0, .slice none 0 0, .slice none 0 0, .int .u64 0] 70 (0, 0)) ∧ H ≤ ob
  | _, _, v => v = undef
theorem RN.nu {ab k H : Nat} {a : Arc} {ra : Option Addr} {rc : Nat} {wa : Option Addr} {wc : Nat} : ∀ (i : Nat) (w w' : World) (v : Value), Nu w w' → RN ab k H a ra rc wa wc i w v → RN ab k H a ra rc wa wc i w' v := by
  intro i w w' v hn h
  unfold RN at h ⊢
  split <;> simp only at h <;> first
    | exact h
    | (obtain ⟨nb, h1, h2, h3⟩ := h; exact ⟨nb, h1, hn.heap h2 id, h3⟩)
    | (obtain ⟨ra, rc, h1, h2⟩ := h; exact ⟨ra, rc, h1, h2.mv hn (fun _ _ _ => id) (Nat.le_refl _)⟩)
    | (obtain ⟨ra, rc, wa, wc, h1, h2, h3⟩ := h; exact ⟨ra, rc, wa, wc, h1, h2.mv hn (fun _ _ _ => id) (Nat.le_refl _), h3.mv hn (fun _ _ _ => id) (Nat.le_refl _)⟩)

set_option maxHeartbeats 8000000 in
set_option maxRecDepth 40000 in
theorem rNext_any (w : World) (ao : Option Addr) (cap : Nat) (ns : List Node) (h : NodesAt w w.heap.size ao ns) (hm : mayN ns = true) (st : ByteArray) (hst : Short st) : Calls Try.prog 11 #[.agg #[.slice ao ns.length cap], .string st] w (NextOut w ((graphSem ns).next st)) := by
  have HNS := hid h
  have HST := hid hst
  obtain ⟨_, hl, hca, hpa⟩ := may_parts hm
  have HL := hid hl
  have HCA := hid hca
  have HPA := hid hpa
  have hl1 : (ns.length : Int) ≤ 20000 := by omega
  clear h hst hl hm hca hpa
  have HN1 : Hid (Nu w (w.alloc (.cells #[.slice ao ns.length cap] 24))) := Mv.alloc _ _ _
  have HB1 : Hid ((w.alloc (.cells #[.slice ao ns.length cap] 24)).cell? ⟨w.heap.size, 0, none⟩ = some (.slice ao ns.length cap)) := cell_blk (heap_alloc_new w _) 0
  go_enter Try.func11, Try.ntmps11
  go_upto_region 2 with fail
  generalize w.alloc (.cells #[.slice ao ns.length cap] 24) = w1 at *
  go_upto_region 3 with (go_at_call 26; refine (rNumbers_any _ st HST.out).mono ?_; rintro e w2 ⟨hn2, hcase⟩; have HN2 := hid hn2; clear hn2; rcases hcase with ⟨v, rfl, hno⟩ | ⟨g, cp, n, rfl, c3, hn, hno⟩)
  · have HLK := hid (sem_none (hno _ HL.out)).2
    clear hno
    go_wp2
    go_quiet (fail)
    go_wp2
    go_ret
    rw [HLK.out]
    have h0 : NxI w (w2.drewN nq) [] [] (.slice none 0 0) := ⟨mv0 (mv0 HN1.out HN2.out) (nu_drewN' w2 nq), ⟨rfl, .inl ⟨rfl, rfl⟩⟩, fun _ h => absurd h (by simp), rfl⟩
    exact h0.out rfl
  · have d1 := cell_mv HN2.out HB1.out id
    rcases Nat.lt_or_ge n ns.length with hlt | hge
    · have hlt' : (n : Int) < (ns.length : Int) := by omega
      have hge' : ¬ (ns.length : Int) ≤ (n : Int) := by omega
      have hgd : decide ((ns.length : Int) ≤ (n : Int)) = false := by simpa using hge'
      have hnn := hno _ HL.out
      rw [if_pos hlt] at hnn
      have HLK := hid (sem_some hnn hlt).2
      rcases HNS.out.row with h0 | ⟨b, off, rfl, hb, hit⟩
      · omega
      obtain ⟨⟨v0, n0, aa, ac, rfl, i0⟩, _, _, _, _⟩ := hit n hlt
      have HAA := hid i0
      have hxm : ns[n] ∈ ns := List.getElem_mem hlt
      have HAL : Hid (ns[n].arcs.length ≤ 262144) := Nat.le_trans (arcs_in' hxm) HCA.out
      have HAB : Hid (∀ a ∈ ns[n].arcs, arcB ns.length a = true) := HPA.out _ hxm
      replace n0 := cell_mv (mv0 HN1.out HN2.out) n0 id
      generalize ns[n] = x at *
      clear hno hit hlt hnn hn i0 hxm
      go_wp2
      go_quiet (fail)
      go_wp2
      have HNQ : Hid (Nu w2 (w2.drewN nq)) := nu_drewN' w2 nq
      generalize w2.drewN nq = w3 at *
      replace d1 := cell_mv HNQ.out d1 id
      replace c3 := cell_mv HNQ.out c3 id
      replace n0 := cell_mv HNQ.out n0 id
      clear hgd
      go_quiet (fail)
      have HNQ2 : Hid (Nu w (w3.drewN nq)) := mv0 (mv0 (mv0 HN1.out HN2.out) HNQ.out) (nu_drewN' w3 nq)
      generalize w3.drewN nq = w4 at *
      clear d1 c3 n0 hge'
      generalize decide (ns.length ≤ n) = dd
      clear hlt'
      go_wp2
      go_loopw [5, 9] (fun ov iv wr => ∃ (pre : List X), iv = .int .i64 (pre.length : Int) ∧ pre.length ≤ x.arcs.length ∧ ∃ vo vc, ov = .slice vo pre.length vc ∧ Hid (NxI w wr (movsOf x.arcs) pre (.slice vo pre.length vc))) (fun _ iv _ => x.arcs.length - (intOf iv).toNat)
      case atStart => exact ⟨[], rfl, Nat.zero_le _, none, 0, rfl, HNQ2.out, ⟨rfl, .inl ⟨rfl, rfl⟩⟩, fun _ h => absurd h (by simp), rfl⟩
      case round =>
        obtain ⟨pre, rfl, hle, vo, vc, rfl, HI⟩ := hrel
        rcases Nat.lt_or_ge pre.length x.arcs.length with hlt2 | hge2
        · have hlt2' : (pre.length : Int) < (x.arcs.length : Int) := by omega
          have HLT2 := hid hlt2
          have haa := HAA.out.below HI.out.nu.nu_below (Nat.le_refl _)
          rcases haa.row with h0 | ⟨b2, off2, rfl, _, hit2⟩
          · omega
          have hat := hit2 pre.length hlt2
          have HMG := hid (movsOf_get hlt2)
          have HTO := hid (arcB_to (HAB.out _ (List.getElem_mem hlt2)) HL.out)
          generalize x.arcs[pre.length] = a at *
          obtain ⟨a0, a1, a2, ⟨_, a3, ra, rc, rfl, hra⟩, ⟨_, a4, wa, wc, rfl, hwa⟩, a5⟩ := hat
          have HRA := hid hra
          have HWA := hid hwa
          clear hra hwa haa hit2 hlt2
          go_upto_region 10 with fail
          clear a0 a1 a2 a3 a4 a5
          have HN4 := hid (Mv.alloc (fun _ => False) wr (.cells #[.int .i64 a.proc, .int .i64 a.to, .int .i64 a.bad, .slice ra a.reads.length rc, .slice wa a.writes.length wc, .int .u64 a.turns] 51))
          have HB4 := hid (heap_alloc_new wr (.cells #[.int .i64 a.proc, .int .i64 a.to, .int .i64 a.bad, .slice ra a.reads.length rc, .slice wa a.writes.length wc, .int .u64 a.turns] 51))
          generalize wr.alloc (.cells #[.int .i64 a.proc, .int .i64 a.to, .int .i64 a.bad, .slice ra a.reads.length rc, .slice wa a.writes.length wc, .int .u64 a.turns] 51) = w5 at *
          have HZW : Hid (wr.heap.size ≤ w5.heap.size) := HN4.out.size
          have HBW : Hid (w.heap.size ≤ wr.heap.size) := HI.out.nu.size
          have HB0 := hid (HN4.out.below HBW.out (fun _ h => h.elim))
          generalize hxb : wr.heap.size = xb at *
          have HXE := hid hxb
          clear hxb
          have HW5 : Hid (Below w.heap.size w w5) := (mv0 HI.out.nu HN4.out).nu_below
          have HZ5 : Hid (w.heap.size ≤ w5.heap.size) := (mv0 HI.out.nu HN4.out).size
          have HRI : Hid (IntsAt w5 w.heap.size ra a.reads ∧ IntsAt w5 w.heap.size wa a.writes) := ⟨HRA.out.below HB0.out (Nat.le_refl _), HWA.out.below HB0.out (Nat.le_refl _)⟩
          obtain ⟨p0, p1, p2, p3, p4, p5⟩ := cells6 HB4.out
          rename_i KC hKC
          refine wp_lookS (RN xb pre.length w5.heap.size a ra rc wa wc) RN.nu (by kernel_rfl) (by kernel_rfl) ?step ?last
          case step =>
            intro i p d a' w' ho hd hn hfr had K hK
            have hi : i < 16 := (Array.getElem?_eq_some_iff.1 ho).1
            have f9 := hfr 9 (by kernel_rfl)
            have f10 := hfr 10 (by kernel_rfl)
            have hri : IntsAt w' w.heap.size ra a.reads := HRI.out.1.below (hn.below HZ5.out (fun _ h => h.elim)) (Nat.le_refl _)
            have hwi : IntsAt w' w.heap.size wa a.writes := HRI.out.2.below (hn.below HZ5.out (fun _ h => h.elim)) (Nat.le_refl _)
            have : i = 0 ∨ i = 1 ∨ i = 2 ∨ i = 3 ∨ i = 4 ∨ i = 5 ∨ i = 6 ∨ i = 7 ∨ i = 8 ∨ i = 9 ∨ i = 10 ∨ i = 11 ∨ i = 12 ∨ i = 13 ∨ i = 14 ∨ i = 15 := by omega
            rcases this with rfl | rfl | rfl | rfl | rfl | rfl | rfl | rfl | rfl | rfl | rfl | rfl | rfl | rfl | rfl | rfl <;> cases ho <;> cases hd
            · exact ite_yes (want_none rfl) (lk_fieldA0 rfl rfl f10 (fun w' hm => hK w' _ hm rfl))
            · obtain ⟨⟨_, h0, rfl⟩, _⟩ := had; exact ite_yes (want_none rfl) (lk_loadN rfl rfl h0 (cell_mv hn p0 id) (fun w' hm => hK w' _ hm rfl))
            · exact ite_yes (want_none rfl) (lk_move rfl rfl f9 (fun w' hm => hK w' _ hm rfl))
            · exact ite_yes (want_none rfl) (lk_fieldA2 rfl rfl f10 (fun w' hm => hK w' _ hm (by simp [RN])))
            · obtain ⟨⟨_, h0, rfl⟩, _⟩ := had; exact ite_yes (want_none rfl) (lk_loadN rfl rfl h0 (cell_mv hn p2 id) (fun w' hm => hK w' _ hm rfl))
            · exact ite_yes (want_none rfl) (lk_fieldA3 rfl rfl f10 (fun w' hm => hK w' _ hm (by simp [RN])))
            · obtain ⟨⟨_, h0, rfl⟩, _⟩ := had; exact ite_yes (want_none rfl) (lk_loadI rfl rfl h0 (cell_mv hn p3 id) (fun w' hm => hK w' _ hm rfl))
            · obtain ⟨⟨_, h0, rfl⟩, _⟩ := had; exact ite_yes (want_none rfl) (lk_copies rfl rfl h0 hri (fun w' ao' cap' hm hown => hK w' _ hm ⟨ao', cap', rfl, hown.mv (Mv.refl (fun _ => False) _) (fun _ _ _ => id) hn.size⟩))
            · exact ite_yes (want_none rfl) (lk_fieldA4 rfl rfl f10 (fun w' hm => hK w' _ hm (by simp [RN])))
            · obtain ⟨⟨_, h0, rfl⟩, _⟩ := had; exact ite_yes (want_none rfl) (lk_loadI rfl rfl h0 (cell_mv hn p4 id) (fun w' hm => hK w' _ hm rfl))
            · obtain ⟨⟨_, h0, rfl⟩, _⟩ := had; exact ite_yes (want_none rfl) (lk_copies rfl rfl h0 hwi (fun w' ao' cap' hm hown => hK w' _ hm ⟨ao', cap', rfl, hown.mv (Mv.refl (fun _ => False) _) (fun _ _ _ => id) hn.size⟩))
            · exact ite_yes (want_none rfl) (lk_fieldA5 rfl rfl f10 (fun w' hm => hK w' _ hm (by simp [RN])))
            · obtain ⟨⟨_, h0, rfl⟩, _⟩ := had; exact ite_yes (want_none rfl) (lk_loadU rfl rfl h0 (cell_mv hn p5 id) (fun w' hm => hK w' _ hm rfl))
            · obtain ⟨⟨_, h0, rfl⟩, ⟨_, h1, rfl⟩, ⟨_, h2, rfl⟩, ⟨_, h3, q1, k1, rfl, hq1⟩, ⟨_, h4, q2, k2, rfl, hq2⟩, ⟨_, h5, rfl⟩, _⟩ := had; exact ite_yes (want_none rfl) (lk_buildM2 rfl rfl h0 h1 h2 h3 h4 h5 (fun w' hm => hK w' _ hm ⟨q1, k1, q2, k2, rfl, hq1.mv hm (fun _ _ _ => id) (Nat.le_refl _), hq2.mv hm (fun _ _ _ => id) (Nat.le_refl _)⟩))
            · exact ite_yes (want_none rfl) (lk_allocM rfl rfl (hK _ _ (Mv.alloc _ _ _) ⟨_, rfl, heap_alloc_new _ _, hn.size⟩))
          case last =>
            intro p a' w6 ho hn6 hdf hsz hfr htv
            cases ho
            obtain ⟨v7, t7, _⟩ := htv 7 _ 53 rfl rfl
            obtain ⟨v10, t10, _⟩ := htv 10 _ 56 rfl rfl
            obtain ⟨v13, t13, r1, c1, r2, c2, rfl, hr1, hr2⟩ := htv 13 _ 59 rfl rfl
            obtain ⟨v14, t14, ob, rfl, hob, hobl⟩ := htv 14 _ 11 rfl rfl
            have htm := fill_eq (vals := fun i => ([.pointer (some ⟨xb, 0, none⟩), .int .i64 a.proc, .int .i64 (pre.length : Int), .pointer (some ⟨xb, 2, none⟩), .int .i64 a.bad, .pointer (some ⟨xb, 3, none⟩), .slice ra a.reads.length rc, v7, .pointer (some ⟨xb, 4, none⟩), .slice wa a.writes.length wc, v10, .pointer (some ⟨xb, 5, none⟩), .int .u64 a.turns, .agg #[.int .i64 a.proc, .int .i64 (pre.length : Int), .int .i64 (-1), .int .i64 (-1), .string ⟨#[]⟩, .int .i64 a.bad, .slice r1 a.reads.length c1, .slice r2 a.writes.length c2, .int .u64 a.turns], .pointer (some ⟨ob, 0, none⟩)] : List Value).getD i undef) (by kernel_rfl) hfr (fun i p d hi hd => by
              have hi' : i < 16 := (Array.getElem?_eq_some_iff.1 hi).1
              obtain ⟨v, h, hv⟩ := htv i p d hi hd
              have : i = 0 ∨ i = 1 ∨ i = 2 ∨ i = 3 ∨ i = 4 ∨ i = 5 ∨ i = 6 ∨ i = 7 ∨ i = 8 ∨ i = 9 ∨ i = 10 ∨ i = 11 ∨ i = 12 ∨ i = 13 ∨ i = 14 ∨ i = 15 := by omega
              rcases this with rfl | rfl | rfl | rfl | rfl | rfl | rfl | rfl | rfl | rfl | rfl | rfl | rfl | rfl | rfl | rfl <;> cases hi <;> cases hd <;> first | exact t7 | exact t10 | exact t13 | exact t14 | exact h.trans (congrArg some hv))
            refine lk_storeM2 rfl rfl t14 t13 hob (fun w7 hb7 hm7 => ?_)
            refine hKC _ _ ?_
            have HN7 : Hid (Nu w5 w7) := hn6.trans hm7 (fun x hx => .inr (by omega))
            have HB7 := hid hb7
            have HOB := hid hobl
            have hobr : ∀ {ao : Option Addr} {cp : Nat} {ys : List Int}, OwnI w6 w5.heap.size ao cp ys → ∀ a, 0 < cp → ao = some a → ¬ a.block = ob := fun {ao cp ys} hy a hp ha e => by
              rcases hy.row with h0 | ⟨g, cs, hg, hh, hc, _⟩
              · omega
              · rw [hg] at ha; cases ha
                simp only at e
                rw [e, hob] at hc
                simp at hc
            have HOW : Hid (OwnI w7 w5.heap.size r1 c1 a.reads ∧ OwnI w7 w5.heap.size r2 c2 a.writes) := ⟨hr1.mv hm7 (hobr hr1) (Nat.le_refl _), hr2.mv hm7 (hobr hr2) (Nat.le_refl _)⟩
            rw [act_eq' htm hdf]
            clear htm hdf hn6 hsz hfr htv t7 t10 t13 t14 hob hb7 hm7 hobl hKC hobr hr1 hr2 p0 p3 p4 p5
            simp only [fill, List.getD_cons_succ, List.getD_cons_zero, List.setIfInBounds_toArray, List.set_cons_succ, List.set_cons_zero]
            replace p1 := cell_mv HN7.out p1 id
            replace p2 := cell_mv HN7.out p2 id
            have HNT := hid (mv0 HN4.out HN7.out)
            have HWB := HZ5
            clear HN4 HB4
            by_cases hbad : a.bad = 0
            · obtain ⟨tn, htn, htl⟩ := HTO.out
              have HTN := hid (And.intro htn htl)
              rw [htn] at p1
              rw [hbad] at p2
              have HBAD := hid hbad
              clear htn htl hbad
              go_upto_region 12 with fail
              clear p2
              have HN8 : Hid (Nu w7 (w7.alloc (.cells #[.int .i64 (tn : Int)] 3))) := Mv.alloc _ _ _
              have HC8 : Hid ((w7.alloc (.cells #[.int .i64 (tn : Int)] 3)).cell? ⟨w7.heap.size, 0, none⟩ = some (.int .i64 (tn : Nat))) := cell_blk (heap_alloc_new w7 _) 0
              go_upto_region 13 with (go_at_call 13; refine (rBytes_any _ _ tn HC8.out (by have := HTN.out.2; omega)).mono ?_; rintro e w9 ⟨rfl, hn9⟩; have HN9 := hid (mv0 HN8.out hn9); have e4 := cell_blk (HN9.out.heap HB7.out id) 4; have z4 := free_blk (HN9.out.heap HB7.out id) 4; clear hn9)
              have HM10 : Hid (Mv (· = ob) w9 (w9.setCell ⟨ob, 4, none⟩ (.string (nst tn)))) := Mv.setCell w9 ⟨ob, 4, none⟩ _
              have HBT : Hid ((w9.setCell ⟨ob, 4, none⟩ (.string (nst tn))).heap[ob]? = some (.cells #[.int .i64 a.proc, .int .i64 (pre.length : Int), .int .i64 (-1), .int .i64 (-1), .string (nst tn), .int .i64 a.bad, .slice r1 a.reads.length c1, .slice r2 a.writes.length c2, .int .u64 a.turns] 70 (0, 0))) := setCell_blk (HN9.out.heap HB7.out id)
              have hobr : ∀ {ao : Option Addr} {cp : Nat} {ys : List Int}, OwnI w9 w5.heap.size ao cp ys → ∀ a, 0 < cp → ao = some a → ¬ a.block = ob := fun {ao cp ys} hy a hp ha e => by
                rcases hy.row with h0 | ⟨g, cs, hg, hh, hc, _⟩
                · omega
                · rw [hg] at ha; cases ha
                  simp only at e
                  rw [e, HN9.out.heap HB7.out id] at hc
                  simp at hc
              have o1 := HOW.out.1.mv HN9.out (fun _ _ _ => id) (Nat.le_refl _)
              have o2 := HOW.out.2.mv HN9.out (fun _ _ _ => id) (Nat.le_refl _)
              replace HOW : Hid (OwnI (w9.setCell ⟨ob, 4, none⟩ (.string (nst tn))) w5.heap.size r1 c1 a.reads ∧ OwnI (w9.setCell ⟨ob, 4, none⟩ (.string (nst tn))) w5.heap.size r2 c2 a.writes) := ⟨o1.mv HM10.out (hobr o1) (Nat.le_refl _), o2.mv HM10.out (hobr o2) (Nat.le_refl _)⟩
              replace HNT : Hid (Nu wr (w9.setCell ⟨ob, 4, none⟩ (.string (nst tn)))) := (mv0 HNT.out HN9.out).trans HM10.out (fun b hb => .inr (by have h1 : b = ob := hb; have := HOB.out; have := HZW.out; have := HXE.out; omega))
              generalize w9.setCell ⟨ob, 4, none⟩ (.string (nst tn)) = w10 at *
              clear e4 z4 HM10 o1 o2 hobr p1
              have HCE : Hid ((⟨movOf pre.length a, r1, c1, r2, c2⟩ : X).cells = [.int .i64 a.proc, .int .i64 (pre.length : Int), .int .i64 (-1), .int .i64 (-1), .string (nst tn), .int .i64 a.bad, .slice r1 a.reads.length c1, .slice r2 a.writes.length c2, .int .u64 a.turns]) := by show _ = _; simp [X.cells, movOf, HBAD.out, HTN.out.1]
              obtain ⟨p0, p1, p2, p3, p4, p5, p6, p7, p8⟩ := cells9 HBT.out
              obtain ⟨i0, hi0, hz0, hz1, hz2⟩ := n_info_parts n_infoMove
              have HN7 : Hid (Nu w10 (w10.alloc (.cells #[.int .i64 a.proc, .int .i64 (pre.length : Int), .int .i64 (-1), .int .i64 (-1), .string (nst tn), .int .i64 a.bad, .slice r1 a.reads.length c1, .slice r2 a.writes.length c2, .int .u64 a.turns] 70))) := Mv.alloc _ _ _
              have HR7 := hid (row_mv (mv0 HNT.out HN7.out) HI.out.row (fun _ _ => id))
              have HNB : Hid (∀ q v, ([.int .i64 a.proc, .int .i64 (pre.length : Int), .int .i64 (-1), .int .i64 (-1), .string (nst tn), .int .i64 a.bad, .slice r1 a.reads.length c1, .slice r2 a.writes.length c2, .int .u64 a.turns] : List Value)[q]? = some v → (w10.alloc (.cells #[.int .i64 a.proc, .int .i64 (pre.length : Int), .int .i64 (-1), .int .i64 (-1), .string (nst tn), .int .i64 a.bad, .slice r1 a.reads.length c1, .slice r2 a.writes.length c2, .int .u64 a.turns] 70)).cell? ((⟨w10.heap.size, 0, none⟩ : Addr).add q) = some v) := fun q v hj => by
                rw [add_block, cell_blk (heap_alloc_new w10 _)]; simpa using hj
              have hpl : pre.length < 262144 := by have := HAL.out; have := HLT2.out; omega
              have HBS : Hid (w.heap.size ≤ w10.heap.size) := Nat.le_trans HI.out.nu.size HNT.out.size
              have HIT := hid (HI.out.go (mv0 HNT.out HN7.out))
              have HOT : Hid (XOwn (w10.alloc (.cells #[.int .i64 a.proc, .int .i64 (pre.length : Int), .int .i64 (-1), .int .i64 (-1), .string (nst tn), .int .i64 a.bad, .slice r1 a.reads.length c1, .slice r2 a.writes.length c2, .int .u64 a.turns] 70)) w.heap.size ⟨movOf pre.length a, r1, c1, r2, c2⟩) := ⟨HOW.out.1.mv HN7.out (fun _ _ _ => id) HWB.out, HOW.out.2.mv HN7.out (fun _ _ _ => id) HWB.out⟩
              go_wp2_with (at_builtin; refine wpList_append_lies _ rfl _ _ 36 rfl w.heap.size 70 i0 (.agg #[.int .i64 0, .int .i64 0, .int .i64 0, .int .i64 0, .string ⟨#[]⟩, .int .i64 0, .slice none 0 0, .slice none 0 0, .int .u64 0]) 9 112 Try.underlying36 hi0 hz0 hz1 hz2 rfl (by decide) _ pre.length (xflat pre) rfl HR7.out ⟨w10.heap.size, 0, none⟩ 1 1 [.int .i64 a.proc, .int .i64 (pre.length : Int), .int .i64 (-1), .int .i64 (-1), .string (nst tn), .int .i64 a.bad, .slice r1 a.reads.length c1, .slice r2 a.writes.length c2, .int .u64 a.turns] rfl rfl HNB.out (by simp [Value.oneCell']) (by decide) (by unfold maxLen; omega) (by omega) (by have := HBS.out; simp; omega) _ rfl ?_)
              intro g2 nc2 w8 ho8 hg8 hgg _
              have HI8 := hid (HIT.out.step hg8 (by rw [HCE.out]; exact ho8) (HMG.out) HOT.out)
              have hlen : (pre ++ [(⟨movOf pre.length a, r1, c1, r2, c2⟩ : X)]).length = pre.length + 1 := by simp
              clear ho8 hg8 hgg p0 p1 p2 p3 p4 p5 p6 p7 p8
              go_wp2
              go_roundw
              case rel => exact ⟨pre ++ [⟨movOf pre.length a, r1, c1, r2, c2⟩], by rw [hlen]; go_num, by rw [hlen]; have := HLT2.out; omega, some ⟨g2, 0, none⟩, nc2, by rw [hlen], by rw [hlen]; exact HI8.out⟩
              case measure => have := HLT2.out; simp [intOf]; omega
            · go_upto_region 13 with fail
              have HBT := HB7
              have HCE : Hid ((⟨movOf pre.length a, r1, c1, r2, c2⟩ : X).cells = [.int .i64 a.proc, .int .i64 (pre.length : Int), .int .i64 (-1), .int .i64 (-1), .string ⟨#[]⟩, .int .i64 a.bad, .slice r1 a.reads.length c1, .slice r2 a.writes.length c2, .int .u64 a.turns]) := by show _ = _; simp [X.cells, movOf, hbad]
              clear p1 p2
              obtain ⟨p0, p1, p2, p3, p4, p5, p6, p7, p8⟩ := cells9 HBT.out
              obtain ⟨i0, hi0, hz0, hz1, hz2⟩ := n_info_parts n_infoMove
              have HN7b : Hid (Nu w7 (w7.alloc (.cells #[.int .i64 a.proc, .int .i64 (pre.length : Int), .int .i64 (-1), .int .i64 (-1), .string ⟨#[]⟩, .int .i64 a.bad, .slice r1 a.reads.length c1, .slice r2 a.writes.length c2, .int .u64 a.turns] 70))) := Mv.alloc _ _ _
              have HR7 := hid (row_mv (mv0 HNT.out HN7b.out) HI.out.row (fun _ _ => id))
              have HNB : Hid (∀ q v, ([.int .i64 a.proc, .int .i64 (pre.length : Int), .int .i64 (-1), .int .i64 (-1), .string ⟨#[]⟩, .int .i64 a.bad, .slice r1 a.reads.length c1, .slice r2 a.writes.length c2, .int .u64 a.turns] : List Value)[q]? = some v → (w7.alloc (.cells #[.int .i64 a.proc, .int .i64 (pre.length : Int), .int .i64 (-1), .int .i64 (-1), .string ⟨#[]⟩, .int .i64 a.bad, .slice r1 a.reads.length c1, .slice r2 a.writes.length c2, .int .u64 a.turns] 70)).cell? ((⟨w7.heap.size, 0, none⟩ : Addr).add q) = some v) := fun q v hj => by
                rw [add_block, cell_blk (heap_alloc_new w7 _)]; simpa using hj
              have hpl : pre.length < 262144 := by have := HAL.out; have := HLT2.out; omega
              have HBS : Hid (w.heap.size ≤ w7.heap.size) := Nat.le_trans HI.out.nu.size HNT.out.size
              have HIT := hid (HI.out.go (mv0 HNT.out HN7b.out))
              have HOT : Hid (XOwn (w7.alloc (.cells #[.int .i64 a.proc, .int .i64 (pre.length : Int), .int .i64 (-1), .int .i64 (-1), .string ⟨#[]⟩, .int .i64 a.bad, .slice r1 a.reads.length c1, .slice r2 a.writes.length c2, .int .u64 a.turns] 70)) w.heap.size ⟨movOf pre.length a, r1, c1, r2, c2⟩) := ⟨HOW.out.1.mv HN7b.out (fun _ _ _ => id) HWB.out, HOW.out.2.mv HN7b.out (fun _ _ _ => id) HWB.out⟩
              go_wp2_with (at_builtin; refine wpList_append_lies _ rfl _ _ 36 rfl w.heap.size 70 i0 (.agg #[.int .i64 0, .int .i64 0, .int .i64 0, .int .i64 0, .string ⟨#[]⟩, .int .i64 0, .slice none 0 0, .slice none 0 0, .int .u64 0]) 9 112 Try.underlying36 hi0 hz0 hz1 hz2 rfl (by decide) _ pre.length (xflat pre) rfl HR7.out ⟨w7.heap.size, 0, none⟩ 1 1 [.int .i64 a.proc, .int .i64 (pre.length : Int), .int .i64 (-1), .int .i64 (-1), .string ⟨#[]⟩, .int .i64 a.bad, .slice r1 a.reads.length c1, .slice r2 a.writes.length c2, .int .u64 a.turns] rfl rfl HNB.out (by simp [Value.oneCell']) (by decide) (by unfold maxLen; omega) (by omega) (by have := HBS.out; simp; omega) _ rfl ?_)
              intro g2 nc2 w8 ho8 hg8 hgg _
              have HI8 := hid (HIT.out.step hg8 (by rw [HCE.out]; exact ho8) (HMG.out) HOT.out)
              have hlen : (pre ++ [(⟨movOf pre.length a, r1, c1, r2, c2⟩ : X)]).length = pre.length + 1 := by simp
              clear ho8 hg8 hgg p0 p1 p2 p3 p4 p5 p6 p7 p8
              go_wp2
              go_roundw
              case rel => exact ⟨pre ++ [⟨movOf pre.length a, r1, c1, r2, c2⟩], by rw [hlen]; go_num, by rw [hlen]; have := HLT2.out; omega, some ⟨g2, 0, none⟩, nc2, by rw [hlen], by rw [hlen]; exact HI8.out⟩
              case measure => have := HLT2.out; simp [intOf]; omega
        · obtain hpe : pre.length = x.arcs.length := by omega
          have hpn : ¬ (pre.length : Int) < (x.arcs.length : Int) := by omega
          have HPE := hid hpe
          clear hpe hge2 hle
          go_wp2
          go_ret
          rw [HLK.out]
          exact HI.out.out (by rw [movsOf_length]; exact HPE.out.symm)
    · have hge' : (ns.length : Int) ≤ (n : Int) := by omega
      have hgd : decide ((ns.length : Int) ≤ (n : Int)) = true := by simpa using hge'
      have hnn := hno _ HL.out
      rw [if_neg (by omega)] at hnn
      have HLK := hid (sem_none hnn).2
      clear hno hge hnn hn
      go_wp2
      go_quiet (fail)
      go_wp2
      go_ret
      rw [HLK.out]
      have h0 : NxI w (w2.drewN nq) [] [] (.slice none 0 0) := ⟨mv0 (mv0 HN1.out HN2.out) (nu_drewN' w2 nq), ⟨rfl, .inl ⟨rfl, rfl⟩⟩, fun _ h => absurd h (by simp), rfl⟩
      exact h0.out rfl

end Go.Proofs.Ytkjalclplfdpmaa
