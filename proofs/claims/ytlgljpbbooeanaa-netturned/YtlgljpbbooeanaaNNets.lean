/-
  Are two graphs the same: what the reference's Nets answers.
-/
import Derived.Test.YtlgljpbbooeanaaNTwo
namespace Go.Proofs.Ytlgljpbbooeanaa
open Go.RowKit

theorem arc_cases (p q : Arc) : (¬ p.reads = q.reads) ∨ (p.reads = q.reads ∧ ¬ p.writes = q.writes) ∨ (p.reads = q.reads ∧ p.writes = q.writes ∧ ¬ p.proc = q.proc) ∨ (p.reads = q.reads ∧ p.writes = q.writes ∧ p.proc = q.proc ∧ ¬ p.to = q.to) ∨
    (p.reads = q.reads ∧ p.writes = q.writes ∧ p.proc = q.proc ∧ p.to = q.to ∧ ¬ p.bad = q.bad) ∨ (p.reads = q.reads ∧ p.writes = q.writes ∧ p.proc = q.proc ∧ p.to = q.to ∧ p.bad = q.bad ∧ ¬ p.turns = q.turns) ∨ p = q := by
  rcases p with ⟨a, b, c, d, e, f⟩
  rcases q with ⟨a', b', c', d', e', f'⟩
  simp only [Arc.mk.injEq]
  by_cases h1 : d = d'
  · by_cases h2 : e = e'
    · simp only [h1, h2, true_and, not_true, false_or]; omega
    · exact .inr (.inl ⟨h1, h2⟩)
  · exact .inl h1

theorem node_cases (p q : Node) : (¬ p.props = q.props) ∨ (p.props = q.props ∧ ¬ p.en = q.en) ∨ (p.props = q.props ∧ p.en = q.en ∧ ¬ p.pr = q.pr) ∨ (p.props = q.props ∧ p.en = q.en ∧ p.pr = q.pr ∧ ¬ p.ac = q.ac) ∨
    (p.props = q.props ∧ p.en = q.en ∧ p.pr = q.pr ∧ p.ac = q.ac ∧ ¬ p.arcs.length = q.arcs.length) ∨ (p.props = q.props ∧ p.en = q.en ∧ p.pr = q.pr ∧ p.ac = q.ac ∧ p.arcs.length = q.arcs.length) := by
  by_cases h1 : p.props = q.props <;> by_cases h2 : p.en = q.en <;> by_cases h3 : p.pr = q.pr <;> by_cases h4 : p.ac = q.ac <;> by_cases h5 : p.arcs.length = q.arcs.length <;> simp [h1, h2, h3, h4, h5]

theorem node_eq {p q : Node} (h1 : p.props = q.props) (h2 : p.en = q.en) (h3 : p.pr = q.pr) (h4 : p.ac = q.ac) (h5 : p.arcs = q.arcs) : p = q := by
  rcases p with ⟨a, b, c, d, e⟩
  rcases q with ⟨a', b', c', d', e'⟩
  simp_all

theorem bool_not {a b : Bool} (h : ¬ a = b) : b = !a := by cases a <;> cases b <;> simp_all

/-- A box of one cell. -/
theorem box_new (w : World) (v : Value) (t : TypeId) : (w.alloc (.cells #[v] t)).heap[w.heap.size]? = some (.cells #[v] t (0, 0)) := heap_alloc_new w _

set_option maxHeartbeats 8000000 in
set_option maxRecDepth 40000 in
theorem rNets_any (w : World) {B : Nat} {ao bo : Option Addr} {cap dap : Nat} (ns ms : List Node) (h : NodesAt w B ao ns) (hu : NodesAt w B bo ms) (hB : B ≤ w.heap.size) :
    Calls Try.prog 17 #[.agg #[.slice ao ns.length cap], .agg #[.slice bo ms.length dap]] w fun r w' => r = .returned (.bool (decide (ns = ms))) ∧ Nu w w' := by
  obtain ⟨A, hA⟩ : ∃ A, decide (ns = ms) = A := ⟨_, rfl⟩
  rw [hA]
  have HA : Hid (decide (ns = ms) = A) := hA
  have HB1 : Hid (Nu w ((w.alloc (.cells #[.slice ao ns.length cap] 24)).alloc (.cells #[.slice bo ms.length dap] 24))) := mv0 (Mv.alloc _ _ _) (Mv.alloc _ _ _)
  have hlim := h.lim
  have hlim2 := hu.lim
  have HS : Hid (NodesAt w B ao ns) := h
  have HU : Hid (NodesAt w B bo ms) := hu
  clear h hu hA
  by_cases h2 : ns.length = ms.length
  case neg =>
    have HM : Hid (A = false) := HA.out.symm.trans (decide_eq_false (fun e => h2 (congrArg List.length e)))
    have h2' : ¬ (ns.length : Int) = (ms.length : Int) := by omega
    go_enter Try.func17, Try.ntmps17
    go_wp2
    go_ret
    exact ⟨by rw [HM.out]; rfl, HB1.out⟩
  have HL : Hid (ns.length = ms.length) := h2
  rw [← h2]
  rw [← h2] at HB1
  clear h2
  go_enter Try.func17, Try.ntmps17
  go_wp2
  have HX : Hid (((w.alloc (.cells #[.slice ao ns.length cap] 24)).alloc (.cells #[.slice bo ns.length dap] 24)).cell? ⟨w.heap.size, 0, none⟩ = some (.slice ao ns.length cap) ∧ ((w.alloc (.cells #[.slice ao ns.length cap] 24)).alloc (.cells #[.slice bo ns.length dap] 24)).cell? ⟨w.heap.size + 1, 0, none⟩ = some (.slice bo ns.length dap)) := by
    refine ⟨cell_mv (Mv.alloc (fun _ => False) _ _) (cell_blk (box_new w _ _) 0) id, ?_⟩
    have := cell_blk (box_new (w.alloc (.cells #[.slice ao ns.length cap] 24)) (.slice bo ns.length dap) 24) 0
    rw [World.size_alloc] at this
    exact this
  generalize hW1 : (w.alloc (.cells #[.slice ao ns.length cap] 24)).alloc (.cells #[.slice bo ns.length dap] 24) = W1 at *
  clear hW1
  go_loopw [5] (fun iv wr => ∃ (i : Nat), i ≤ ns.length ∧ iv = .int .i64 (i : Int) ∧ Hid (sameTo ns ms i) ∧ Nu W1 wr)
    (fun iv _ => ns.length - (intOf iv).toNat)
  case atStart => exact ⟨0, Nat.zero_le _, rfl, sameTo_zero _ _, Mv.refl _ _⟩
  case round =>
    obtain ⟨i, hi, rfl, HI, hbr1⟩ := hrel
    have HR : Hid (Nu W1 wr) := hbr1
    have hbr : Nu w wr := mv0 HB1.out hbr1
    have HW : Hid (Nu w wr) := hbr
    have d0 := cell_mv hbr1 HX.out.1 id
    have d1 := cell_mv hbr1 HX.out.2 id
    have hbb : Below B w wr := hbr.nu_below.mono hB
    clear hbr1 hbr
    rcases Nat.lt_or_ge i ns.length with hlt | hge
    case inr =>
      obtain rfl : i = ns.length := by omega
      have HM : Hid (A = true) := HA.out.symm.trans (decide_eq_true (sameTo_all HL.out HI.out))
      clear d1
      go_wp2
      go_ret
      exact ⟨by rw [HM.out]; rfl, HW.out⟩
    have hlt' : (i : Int) < (ns.length : Int) := by omega
    have hltu : i < ms.length := by have := HL.out; omega
    rcases (HS.out.below hbb (Nat.le_refl _)).row with h0 | ⟨b, off, rfl, hbB, hit⟩
    · omega
    rcases (HU.out.below hbb (Nat.le_refl _)).row with h0 | ⟨b', off', rfl, hbB', hit'⟩
    · have := HL.out; omega
    have HT : Hid (i < ns.length ∧ i < ms.length) := ⟨hlt, hltu⟩
    obtain ⟨x, HE, hx⟩ : ∃ x, Hid (ns[i]'hlt = x) ∧ NodeAt wr B b (off + i * 5) x := ⟨_, rfl, hit i hlt⟩
    obtain ⟨y, HF, hy⟩ : ∃ y, Hid (ms[i]'hltu = y) ∧ NodeAt wr B b' (off' + i * 5) y := ⟨_, rfl, hit' i hltu⟩
    obtain ⟨_, c0, xo, xc, rfl, hxa⟩ := hx.c0
    obtain ⟨_, e0, yo, yc, rfl, hya⟩ := hy.c0
    have c1 := hx.c1
    have c2 := hx.c2
    have c3 := hx.c3
    have c4 := hx.c4
    have e1 := hy.c1
    have e2 := hy.c2
    have e3 := hy.c3
    have e4 := hy.c4
    have HN : Hid (¬ x = y → A = false) := fun hne => HA.out.symm.trans (decide_eq_false (fun e => hne (by rw [← HE.out, ← HF.out]; simp only [e])))
    have HXY : Hid (ArcsAt wr B xo x.arcs ∧ ArcsAt wr B yo y.arcs) := ⟨hxa, hya⟩
    have hl1 := hxa.lim
    have hl2 := hya.lim
    clear hx hy hit hit' hbb hxa hya
    have hz1 : w.heap.size + 1 < wr.heap.size := World.block_lt_of_cell? wr _ d1
    have hz0 : w.heap.size < wr.heap.size := by omega
    have hzb : b < wr.heap.size := World.block_lt_of_cell? wr _ c1
    have hzb' : b' < wr.heap.size := World.block_lt_of_cell? wr _ e1
    have hnu : ∀ o o', Nu wr ((wr.alloc o).alloc o') := fun o o' => mv0 (Mv.alloc _ _ _) (Mv.alloc _ _ _)
    have HNU : Hid _ := hnu
    clear hnu
    rcases node_cases x y with hh | ⟨h1, hh⟩ | ⟨h1, h2, hh⟩ | ⟨h1, h2, h3, hh⟩ | ⟨h1, h2, h3, h4, hh⟩ | ⟨h1, h2, h3, h4, h5⟩
    · have HM : Hid (A = false) := HN.out (fun e => hh (by rw [e]))
      go_wp2
      go_ret
      exact ⟨by rw [HM.out]; rfl, mv0 HW.out (HNU.out _ _)⟩
    · have HM : Hid (A = false) := HN.out (fun e => hh (by rw [e]))
      rw [← h1] at e1
      rw [bool_not hh] at e2
      clear h1 hh
      go_wp2
      go_ret
      exact ⟨by rw [HM.out]; rfl, mv0 HW.out (HNU.out _ _)⟩
    · have HM : Hid (A = false) := HN.out (fun e => hh (by rw [e]))
      rw [← h1] at e1
      rw [← h2] at e2
      rw [bool_not hh] at e3
      clear h1 h2 hh
      go_wp2
      go_ret
      exact ⟨by rw [HM.out]; rfl, mv0 HW.out (HNU.out _ _)⟩
    · have HM : Hid (A = false) := HN.out (fun e => hh (by rw [e]))
      rw [← h1] at e1
      rw [← h2] at e2
      rw [← h3] at e3
      rw [bool_not hh] at e4
      clear h1 h2 h3 hh
      go_wp2
      go_ret
      exact ⟨by rw [HM.out]; rfl, mv0 HW.out (HNU.out _ _)⟩
    · have HM : Hid (A = false) := HN.out (fun e => hh (by rw [e]))
      rw [← h1] at e1
      rw [← h2] at e2
      rw [← h3] at e3
      rw [← h4] at e4
      have hh' : ¬ (x.arcs.length : Int) = (y.arcs.length : Int) := by omega
      clear h1 h2 h3 h4 hh
      go_wp2
      go_ret
      exact ⟨by rw [HM.out]; rfl, mv0 HW.out (HNU.out _ _)⟩
    have HQ : Hid (x.props = y.props ∧ x.en = y.en ∧ x.pr = y.pr ∧ x.ac = y.ac ∧ x.arcs.length = y.arcs.length) := ⟨h1, h2, h3, h4, h5⟩
    rw [← h1] at e1
    rw [← h2] at e2
    rw [← h3] at e3
    rw [← h4] at e4
    rw [← h5] at e0
    clear h1 h2 h3 h4 h5
    have HY : Hid (∀ (v1 v2 : Value) (l1 l2 : List Value), ((wr.alloc (.cells (v1 :: l1).toArray 53)).alloc (.cells (v2 :: l2).toArray 53)).cell? ⟨wr.heap.size, 0, none⟩ = some v1 ∧ ((wr.alloc (.cells (v1 :: l1).toArray 53)).alloc (.cells (v2 :: l2).toArray 53)).cell? ⟨wr.heap.size + 1, 0, none⟩ = some v2) := by
      intro v1 v2 l1 l2
      refine ⟨cell_mv (Mv.alloc (fun _ => False) _ _) (by rw [cell_blk (heap_alloc_new wr _)]; rfl) id, ?_⟩
      have := cell_blk (heap_alloc_new (wr.alloc (.cells (v1 :: l1).toArray 53)) (.cells (v2 :: l2).toArray 53)) 0
      rw [World.size_alloc] at this
      rw [this]; rfl
    go_wp2
    have hyy := HY.out (.slice xo x.arcs.length xc) (.slice yo x.arcs.length yc) [.int .u64 x.props, .bool x.en, .bool x.pr, .bool x.ac] [.int .u64 x.props, .bool x.en, .bool x.pr, .bool x.ac]
    have hnn := HNU.out (.cells #[.slice xo x.arcs.length xc, .int .u64 x.props, .bool x.en, .bool x.pr, .bool x.ac] 53) (.cells #[.slice yo x.arcs.length yc, .int .u64 x.props, .bool x.en, .bool x.pr, .bool x.ac] 53)
    have HYY : Hid _ := hyy
    have HNN : Hid _ := hnn
    clear hyy hnn HY HNU c0 c1 c2 c3 c4 e0 e1 e2 e3 e4 d0 d1
    generalize (wr.alloc (.cells #[.slice xo x.arcs.length xc, .int .u64 x.props, .bool x.en, .bool x.pr, .bool x.ac] 53)).alloc (.cells #[.slice yo x.arcs.length yc, .int .u64 x.props, .bool x.en, .bool x.pr, .bool x.ac] 53) = W3 at *
    have HZ : Hid (B ≤ wr.heap.size) := by have := HW.out.size; show _ ≤ _; omega
    go_loopw [8] (fun kv wk => ∃ (k : Nat), k ≤ x.arcs.length ∧ kv = .int .i64 (k : Int) ∧ Hid (sameTo x.arcs y.arcs k) ∧ Nu W3 wk)
      (fun kv _ => x.arcs.length - (intOf kv).toNat)
    case atStart => exact ⟨0, Nat.zero_le _, rfl, sameTo_zero _ _, Mv.refl _ _⟩
    case round =>
      rename World => wk
      obtain ⟨k, hk, rfl, HK, hnk⟩ := hrel
      have HNK : Hid (Nu wr wk) := mv0 HNN.out hnk
      have HWK : Hid (Nu w wk) := mv0 HW.out HNK.out
      have g0 := cell_mv hnk HYY.out.1 id
      have g1 := cell_mv hnk HYY.out.2 id
      have hbk : Below B wr wk := HNK.out.nu_below.mono HZ.out
      have HRK : Hid (Nu W3 wk) := hnk
      clear hnk
      rcases Nat.lt_or_ge k x.arcs.length with hkl | hkg
      case inr =>
        obtain rfl : k = x.arcs.length := by omega
        have HO : Hid (sameTo ns ms (i + 1)) := sameTo_succ HT.out.1 HT.out.2 HI.out (by
          rw [HE.out, HF.out]
          exact node_eq HQ.out.1 HQ.out.2.1 HQ.out.2.2.1 HQ.out.2.2.2.1 (sameTo_all HQ.out.2.2.2.2 HK.out))
        have HRR : Hid (Nu W1 wk) := mv0 HR.out HNK.out
        clear g1 hbk
        go_wp2
        go_roundw
        case rel => exact ⟨i + 1, HT.out.1, by go_num, HO, HRR.out⟩
        case measure => have := HT.out.1; simp [intOf]; omega
      have hkl' : (k : Int) < (x.arcs.length : Int) := by omega
      have hku : k < y.arcs.length := by have := HQ.out.2.2.2.2; omega
      rcases (HXY.out.1.below hbk (Nat.le_refl _)).row with h0 | ⟨pb, po, rfl, hpB, pit⟩
      · omega
      rcases (HXY.out.2.below hbk (Nat.le_refl _)).row with h0 | ⟨qb, qo, rfl, hqB, qit⟩
      · have := HQ.out.2.2.2.2; omega
      have HKT : Hid (k < x.arcs.length ∧ k < y.arcs.length) := ⟨hkl, hku⟩
      obtain ⟨p, HP, hp⟩ : ∃ p, Hid (x.arcs[k]'hkl = p) ∧ ArcAt wk B pb (po + k * 6) p := ⟨_, rfl, pit k hkl⟩
      obtain ⟨q, HQQ, hq⟩ : ∃ q, Hid (y.arcs[k]'hku = q) ∧ ArcAt wk B qb (qo + k * 6) q := ⟨_, rfl, qit k hku⟩
      obtain ⟨_, p3, pro, prc, rfl, pri⟩ := hp.c3
      obtain ⟨_, p4, pwo, pwc, rfl, pwi⟩ := hp.c4
      obtain ⟨_, q3, qro, qrc, rfl, qri⟩ := hq.c3
      obtain ⟨_, q4, qwo, qwc, rfl, qwi⟩ := hq.c4
      have p0 := hp.c0
      have p1 := hp.c1
      have p2 := hp.c2
      have p5 := hp.c5
      have q0 := hq.c0
      have q1 := hq.c1
      have q2 := hq.c2
      have q5 := hq.c5
      have hz1k : wr.heap.size + 1 < wk.heap.size := World.block_lt_of_cell? wk _ g1
      have hz0k : wr.heap.size < wk.heap.size := by omega
      have hzp : pb < wk.heap.size := World.block_lt_of_cell? wk _ p0
      have hzq : qb < wk.heap.size := World.block_lt_of_cell? wk _ q0
      have HNA : Hid (¬ p = q → A = false) := fun hne => HN.out (fun e => hne (by rw [← HP.out, ← HQQ.out]; simp only [e]))
      have HSA : Hid (p = q → sameTo x.arcs y.arcs (k + 1)) := fun e => sameTo_succ HKT.out.1 HKT.out.2 HK.out (by rw [HP.out, HQQ.out]; exact e)
      have HIN : Hid (IntsAt wk B pro p.reads ∧ IntsAt wk B pwo p.writes ∧ IntsAt wk B qro q.reads ∧ IntsAt wk B qwo q.writes) := ⟨pri, pwi, qri, qwi⟩
      have HNU2 : Hid (∀ o o', Nu wk ((wk.alloc o).alloc o')) := fun o o' => mv0 (Mv.alloc _ _ _) (Mv.alloc _ _ _)
      have HBX : Hid (∀ (l1 l2 : List Value) (i : Nat), ((wk.alloc (.cells l1.toArray 55)).alloc (.cells l2.toArray 55)).cell? ⟨wk.heap.size, i, none⟩ = l1[i]? ∧ ((wk.alloc (.cells l1.toArray 55)).alloc (.cells l2.toArray 55)).cell? ⟨wk.heap.size + 1, i, none⟩ = l2[i]?) := by
        intro l1 l2 i
        refine ⟨?_, ?_⟩
        · rw [cell_blk ((Mv.alloc (fun _ => False) _ _).heap (heap_alloc_new wk _) id)]; simp
        · have := cell_blk (heap_alloc_new (wk.alloc (.cells l1.toArray 55)) (.cells l2.toArray 55)) i
          rw [World.size_alloc] at this
          rw [this]; simp
      clear hp hq pit qit pri pwi qri qwi hbk hpB hqB
      go_wp2_with fail
      have hb := HBX.out [.int .i64 p.proc, .int .i64 p.to, .int .i64 p.bad, .slice pro p.reads.length prc, .slice pwo p.writes.length pwc, .int .u64 p.turns] [.int .i64 q.proc, .int .i64 q.to, .int .i64 q.bad, .slice qro q.reads.length qrc, .slice qwo q.writes.length qwc, .int .u64 q.turns]
      have hn4 := HNU2.out (.cells #[.int .i64 p.proc, .int .i64 p.to, .int .i64 p.bad, .slice pro p.reads.length prc, .slice pwo p.writes.length pwc, .int .u64 p.turns] 55) (.cells #[.int .i64 q.proc, .int .i64 q.to, .int .i64 q.bad, .slice qro q.reads.length qrc, .slice qwo q.writes.length qwc, .int .u64 q.turns] 55)
      have HN4 : Hid _ := hn4
      have HB4 : Hid _ := hb
      clear hb hn4 HBX HNU2 p0 p1 p2 p3 p4 p5 q0 q1 q2 q3 q4 q5 g0 g1
      generalize (wk.alloc (.cells #[.int .i64 p.proc, .int .i64 p.to, .int .i64 p.bad, .slice pro p.reads.length prc, .slice pwo p.writes.length pwc, .int .u64 p.turns] 55)).alloc (.cells #[.int .i64 q.proc, .int .i64 q.to, .int .i64 q.bad, .slice qro q.reads.length qrc, .slice qwo q.writes.length qwc, .int .u64 q.turns] 55) = W4 at *
      have HZ4 : Hid (B ≤ wk.heap.size ∧ B ≤ W4.heap.size) := by
        have h1 := HZ.out
        have h2 := HNK.out.size
        have h3 := HN4.out.size
        exact ⟨by omega, by omega⟩
      have HI4 : Hid (IntsAt W4 B pro p.reads ∧ IntsAt W4 B pwo p.writes ∧ IntsAt W4 B qro q.reads ∧ IntsAt W4 B qwo q.writes) := by
        have hb := HN4.out.nu_below.mono HZ4.out.1
        exact ⟨HIN.out.1.below hb (Nat.le_refl _), HIN.out.2.1.below hb (Nat.le_refl _), HIN.out.2.2.1.below hb (Nat.le_refl _), HIN.out.2.2.2.below hb (Nat.le_refl _)⟩
      refine (rSame_any W4 p.reads q.reads HI4.out.1 HI4.out.2.2.1 HZ4.out.2).mono ?_
      rintro r w5 ⟨rfl, hn5⟩
      have p4 := cell_mv hn5 (HB4.out 4).1 id
      have q4 := cell_mv hn5 (HB4.out 4).2 id
      have HN5 : Hid (Nu W4 w5) := hn5
      clear hn5
      go_wp2_with fail
      have HB5 := HN5.out.nu_below.mono HZ4.out.2
      refine (rSame_any w5 p.writes q.writes (HI4.out.2.1.below HB5 (Nat.le_refl _)) (HI4.out.2.2.2.below HB5 (Nat.le_refl _)) (by have := HZ4.out.2; have := HN5.out.size; omega)).mono ?_
      rintro r w6 ⟨rfl, hn6⟩
      have hn46 := mv0 HN5.out hn6
      clear p4 q4 HB5
      have p0 := cell_mv hn46 (HB4.out 0).1 id
      have p1 := cell_mv hn46 (HB4.out 1).1 id
      have p2 := cell_mv hn46 (HB4.out 2).1 id
      have p5 := cell_mv hn46 (HB4.out 5).1 id
      have q0 := cell_mv hn46 (HB4.out 0).2 id
      have q1 := cell_mv hn46 (HB4.out 1).2 id
      have q2 := cell_mv hn46 (HB4.out 2).2 id
      have q5 := cell_mv hn46 (HB4.out 5).2 id
      have HN6 : Hid (Nu wk w6) := mv0 HN4.out hn46
      clear hn6 hn46 HB4 HI4 HIN
      generalize hA1 : decide (p.reads = q.reads) = A1
      generalize hA2 : decide (p.writes = q.writes) = A2
      rcases arc_cases p q with hh | ⟨h1, hh⟩ | ⟨h1, h2, hh⟩ | ⟨h1, h2, h3, hh⟩ | ⟨h1, h2, h3, h4, hh⟩ | ⟨h1, h2, h3, h4, h5, hh⟩ | hpq
      · have HM : Hid (A = false) := HNA.out (fun e => hh (by rw [e]))
        obtain rfl : A1 = false := by rw [← hA1]; exact decide_eq_false hh
        clear hA1 hA2 hh
        go_wp2
        go_ret
        exact ⟨by rw [HM.out]; rfl, mv0 HWK.out HN6.out⟩
      · have HM : Hid (A = false) := HNA.out (fun e => hh (by rw [e]))
        obtain rfl : A1 = true := by rw [← hA1]; exact decide_eq_true h1
        obtain rfl : A2 = false := by rw [← hA2]; exact decide_eq_false hh
        clear hA1 hA2 hh h1
        go_wp2
        go_ret
        exact ⟨by rw [HM.out]; rfl, mv0 HWK.out HN6.out⟩
      · have HM : Hid (A = false) := HNA.out (fun e => hh (by rw [e]))
        obtain rfl : A1 = true := by rw [← hA1]; exact decide_eq_true h1
        obtain rfl : A2 = true := by rw [← hA2]; exact decide_eq_true h2
        clear hA1 hA2 h1 h2
        go_wp2
        go_ret
        exact ⟨by rw [HM.out]; rfl, mv0 HWK.out HN6.out⟩
      · have HM : Hid (A = false) := HNA.out (fun e => hh (by rw [e]))
        obtain rfl : A1 = true := by rw [← hA1]; exact decide_eq_true h1
        obtain rfl : A2 = true := by rw [← hA2]; exact decide_eq_true h2
        rw [← h3] at q0
        clear hA1 hA2 h1 h2 h3
        go_wp2
        go_ret
        exact ⟨by rw [HM.out]; rfl, mv0 HWK.out HN6.out⟩
      · have HM : Hid (A = false) := HNA.out (fun e => hh (by rw [e]))
        obtain rfl : A1 = true := by rw [← hA1]; exact decide_eq_true h1
        obtain rfl : A2 = true := by rw [← hA2]; exact decide_eq_true h2
        rw [← h3] at q0
        rw [← h4] at q1
        clear hA1 hA2 h1 h2 h3 h4
        go_wp2
        go_ret
        exact ⟨by rw [HM.out]; rfl, mv0 HWK.out HN6.out⟩
      · have HM : Hid (A = false) := HNA.out (fun e => hh (by rw [e]))
        obtain rfl : A1 = true := by rw [← hA1]; exact decide_eq_true h1
        obtain rfl : A2 = true := by rw [← hA2]; exact decide_eq_true h2
        rw [← h3] at q0
        rw [← h4] at q1
        rw [← h5] at q2
        clear hA1 hA2 h1 h2 h3 h4 h5
        go_wp2
        go_ret
        exact ⟨by rw [HM.out]; rfl, mv0 HWK.out HN6.out⟩
      · have HO : Hid (sameTo x.arcs y.arcs (k + 1)) := HSA.out hpq
        obtain rfl : A1 = true := by rw [← hA1]; exact decide_eq_true (by rw [hpq])
        obtain rfl : A2 = true := by rw [← hA2]; exact decide_eq_true (by rw [hpq])
        rw [← hpq] at q0 q1 q2 q5
        have HRN : Hid (Nu W3 w6) := mv0 HRK.out HN6.out
        clear hA1 hA2 hpq
        go_wp2
        go_roundw
        case rel => exact ⟨k + 1, HKT.out.1, by go_num, HO, HRN.out⟩
        case measure => have := HKT.out.1; simp [intOf]; omega

end Go.Proofs.Ytlgljpbbooeanaa
