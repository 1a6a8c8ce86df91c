/-
  VSame.
-/
import Derived.Deep.LoopGhost
import Derived.Test.YtidihaecgmbhpabDoorM29
import Derived.Test.YtidihaecgmbhpabDoorM31
/-
  Two trees side by side: what the program's Same gives.
-/
set_option linter.unusedSimpArgs false
set_option linter.unusedVariables false
namespace Go.Proofs.YtidihaecgmbhpabDoor
open Go.RowKit Q

theorem SmW.start {w W : World} {mb m wb g : Nat} {cp : Nat} (hn : Nu w W) (h1 : W.heap[mb]? = some (.cells #[.map (some m)] 70 (0, 0))) (h2 : W.heap[wb]? = some (.cells #[.slice (some ⟨g, 0, none⟩) 0 cp] 71 (0, 0))) (h3 : W.heap[m]? = some (.map #[] 0)) (h4 : W.heap[g]? = some (.cells #[] 76 (0, 0))) (hcp : cp = 0) (a : w.heap.size ≤ mb) (b : w.heap.size ≤ m) (c : w.heap.size ≤ wb) (d : w.heap.size ≤ g) : SmW w W mb m wb (.slice (some ⟨g, 0, none⟩) 0 cp) [] [] := by
  subst hcp
  exact ⟨hn, h1, h2, ⟨#[], 0, h3, rfl, fun e he => by simp at he⟩, ⟨rfl, .inr ⟨g, 0, #[], rfl, d, h4, by simp, by simp, by simp, by simp⟩⟩, a, b, c⟩

theorem good_of {w : World} {B : Nat} {t u : A} {c0 c1 c2 d0 d1 d2 : Value} (ht : AIn w B c0 c1 c2 t) (hu : AIn w B d0 d1 d2 u) {M : List (A × A)} (h : ∀ p ∈ M, p.1 ∈ t.subs ∧ p.2 ∈ u.subs ∧ p.1.like p.2 = true ∧ p.1.kids ≠ []) : ∀ p ∈ M, Good5 w (key2 p) := fun p hp => by
  obtain ⟨h1, h2, h3, h4⟩ := h p hp
  have h5 : p.2.kids ≠ [] := fun e => by
    simp only [A.like, Bool.and_eq_true, decide_eq_true_eq] at h3
    exact h4 (List.length_eq_zero_iff.1 (by rw [h3.2, e]; rfl))
  exact ⟨(ht.subs p.1 h1 h4).cln, (hu.subs p.2 h2 h5).cln⟩

theorem row_pop2 {W : World} {B : Nat} {e : TypeId} {v : Value} {n : Nat} {xs : List Value} {a b : Value} (h : W.ownsRow B e 2 v (n + 1) (xs ++ [a, b])) : ∃ g cap, v = .slice (some ⟨g, 0, none⟩) (n + 1) cap ∧ W.cell? ⟨g, n * 2, none⟩ = some a ∧ W.cell? ⟨g, n * 2 + 1, none⟩ = some b ∧ n + 1 ≤ cap ∧ cap ≤ maxLen ∧ g < W.heap.size ∧ W.ownsRow B e 2 (.slice (some ⟨g, 0, none⟩) n cap) n xs := by
  have hl := h.1
  rw [List.length_append] at hl
  simp only [List.length_cons, List.length_nil] at hl
  have hxl : xs.length = n * 2 := by omega
  rcases h.2 with ⟨rfl, h0⟩ | ⟨g, cap, cur, rfl, hb, hgg, hx1, hx2, hx3, ht⟩
  · omega
  · have hc := World.ownsRow.cells (g := g) h rfl
    have c1 := hc (n * 2) a (by rw [List.getElem?_append_right (by omega), hxl]; simp)
    have c2 := hc (n * 2 + 1) b (by rw [List.getElem?_append_right (by omega), hxl, show n * 2 + 1 - n * 2 = 1 by omega]; rfl)
    rw [add_at, Nat.zero_add] at c1 c2
    refine ⟨g, cap, rfl, c1, c2, hx1, hx2, lt_of_block hgg, hxl, .inr ⟨g, cap, cur, rfl, hb, hgg, by omega, hx2, hx3, ?_⟩⟩
    have : (cur.toList.take ((n + 1) * 2)).take (n * 2) = (xs ++ [a, b]).take (n * 2) := by rw [ht]
    rw [List.take_take, Nat.min_eq_left (by omega), List.take_append_of_le_length (by omega), List.take_of_length_le (l := xs) (by omega)] at this
    exact this

theorem SmW.pop {w W : World} {mb m wb : Nat} {v : Value} {M S0 : List (A × A)} {p : A × A} (h : SmW w W mb m wb v M (S0 ++ [p])) : ∃ g cap, v = .slice (some ⟨g, 0, none⟩) (S0.length + 1) cap ∧ W.cell? ⟨g, S0.length * 2, none⟩ = some p.1.ent.val ∧ W.cell? ⟨g, S0.length * 2 + 1, none⟩ = some p.2.ent.val ∧ S0.length + 1 ≤ cap ∧ cap ≤ maxLen ∧ g < W.heap.size ∧
    ∀ W', Nu W W' → SmW w (W'.setCell ⟨wb, 0, none⟩ (.slice (some ⟨g, 0, none⟩) S0.length cap)) mb m wb (.slice (some ⟨g, 0, none⟩) S0.length cap) M S0 := by
  have hr := h.row
  rw [List.length_append, List.flatMap_append] at hr
  obtain ⟨g, cap, rfl, c1, c2, q1, q2, q3, hr2⟩ := row_pop2 (n := S0.length) (xs := S0.flatMap val2) (a := p.1.ent.val) (b := p.2.ent.val) (by simpa [val2] using hr)
  refine ⟨g, cap, rfl, c1, c2, q1, q2, q3, fun W' hn => ?_⟩
  have h' := h.next hn
  obtain ⟨a1, a2, a3⟩ := h'.apart
  obtain ⟨a4, a5⟩ := h'.apart2
  have mS : Mv (· = wb) W' (W'.setCell ⟨wb, 0, none⟩ (.slice (some ⟨g, 0, none⟩) S0.length cap)) := Mv.setCell W' ⟨wb, 0, none⟩ _
  refine ⟨h'.nu.trans mS (fun x hx => .inr (by rw [hx]; exact h.hwb)), mS.heap h'.mc a4, by rw [setCell_blk h'.wc]; rfl, h'.set.mv mS (fun e => a2 e.symm), row_mv (row_nu0 hr2 hn) mS (fun x hx e => ?_), h.hmb, h.hm, h.hwb⟩
  exact (a5 x hx).2 e

theorem four (w : World) : SmW w ((((w.alloc (.map #[] 0)).alloc (.cells #[.map (some w.heap.size)] 70)).alloc (.cells #[] 76)).alloc (.cells #[.slice (some ⟨w.heap.size + 1 + 1, 0, none⟩) 0 0] 71)) (w.heap.size + 1) w.heap.size (w.heap.size + 1 + 1 + 1) (.slice (some ⟨w.heap.size + 1 + 1, 0, none⟩) 0 0) [] [] := by
  have z1 : (w.alloc (.map #[] 0)).heap.size = w.heap.size + 1 := by simp
  have z2 : ((w.alloc (.map #[] 0)).alloc (.cells #[.map (some w.heap.size)] 70)).heap.size = w.heap.size + 1 + 1 := by simp
  have z3 : (((w.alloc (.map #[] 0)).alloc (.cells #[.map (some w.heap.size)] 70)).alloc (.cells #[] 76)).heap.size = w.heap.size + 1 + 1 + 1 := by simp
  have a1 := heap_alloc_new w (.map #[] 0)
  have a2 := heap_alloc_new (w.alloc (.map #[] 0)) (.cells #[.map (some w.heap.size)] 70)
  have a3 := heap_alloc_new ((w.alloc (.map #[] 0)).alloc (.cells #[.map (some w.heap.size)] 70)) (.cells #[] 76)
  have a4 := heap_alloc_new (((w.alloc (.map #[] 0)).alloc (.cells #[.map (some w.heap.size)] 70)).alloc (.cells #[] 76)) (.cells #[.slice (some ⟨w.heap.size + 1 + 1, 0, none⟩) 0 0] 71)
  rw [z1] at a2
  rw [z2] at a3
  rw [z3] at a4
  have n2 : Nu (w.alloc (.map #[] 0)) ((w.alloc (.map #[] 0)).alloc (.cells #[.map (some w.heap.size)] 70)) := Mv.alloc _ _ _
  have n3 := mv0 n2 (Mv.alloc (fun _ => False) ((w.alloc (.map #[] 0)).alloc (.cells #[.map (some w.heap.size)] 70)) (.cells #[] 76))
  have n4 := mv0 n3 (Mv.alloc (fun _ => False) (((w.alloc (.map #[] 0)).alloc (.cells #[.map (some w.heap.size)] 70)).alloc (.cells #[] 76)) (.cells #[.slice (some ⟨w.heap.size + 1 + 1, 0, none⟩) 0 0] 71))
  refine SmW.start (mv0 (Mv.alloc _ _ _) n4) ?_ a4 (n4.heap a1 id) ?_ rfl (by omega) (by omega) (by omega) (by omega)
  · exact (mv0 (Mv.alloc (fun _ => False) _ _) (Mv.alloc (fun _ => False) _ _)).heap a2 id
  · exact (Mv.alloc (fun _ => False) _ _).heap a3 id

theorem row_len2 {w : World} {B : Nat} {e : TypeId} {sz : Nat} {v : Value} {n : Nat} {xs : List Value} (h : w.ownsRow B e sz v n xs) : ∃ ao cap, v = .slice ao n cap := by
  rcases h.2 with ⟨rfl, rfl⟩ | ⟨g, cap, cur, rfl, _⟩
  · exact ⟨_, _, rfl⟩
  · exact ⟨_, _, rfl⟩

theorem psz_len (L : List (A × A)) : (∀ q ∈ L, q.1.kids ≠ []) → L.length ≤ psz L := by
  induction L with
  | nil => simp
  | cons a L ih =>
    intro h
    have h4 := ih (fun q hq => h q (by simp [hq]))
    have h5 := h a (by simp)
    have h6 : 1 ≤ T.sizes (A.ts a.1.kids) := by
      have := sizes_rst a.1.kids
      have := List.length_pos_iff.2 h5
      omega
    simp [psz] at h4 ⊢
    omega

theorem kid_pc {w : World} {t x : A} {c0 c1 c2 : Value} {i : Nat} {p : A} (h : AIn w w.heap.size c0 c1 c2 t) (hp : p ∈ t.subs) (hk : p.kids ≠ []) (hx : p.kids[i]? = some x) : PC w p.ent.b (p.ent.o + i * 3) x := by
  obtain ⟨d0, d1, d2, e0, e1, e2, e3⟩ := (h.subs p hp hk).at' i x hx
  exact ⟨d0, d1, d2, e0, e1, e2, e3⟩

set_option maxHeartbeats 4000000 in
theorem same_any (w : World) (t u : A) (tb to ub uo : Nat) (ht : PC w tb to t) (hu : PC w ub uo u) (hs : t.t.size ≤ 1000000) :
    Looks 21 #[.pointer (some ⟨tb, to, none⟩), .pointer (some ⟨ub, uo, none⟩)] w (.bool (t.t.same u.t)) := by
  have HT := hid ht
  have HU := hid hu
  have HS := hid hs
  clear ht hu hs
  obtain ⟨R, hR⟩ : ∃ R : Bool, t.t.same u.t = R := ⟨_, rfl⟩
  have HR := hid hR
  have HNo : Hid (t.t ≠ u.t → R = false) := fun h => by
    rw [← HR.out, Bool.eq_false_iff]
    exact fun e => h ((T.same_iff _ _).1 e)
  have HYes : Hid (t.t = u.t → R = true) := fun h => by
    rw [← HR.out]
    exact (T.same_iff _ _).2 h
  rw [hR]
  clear hR HR
  have hmm := @run_makeMap Tryd.prog
  unfold Looks
  go_enter Tryd.func21, Tryd.ntmps21
  go_wp2_with fail
  have HZ := hid (four w)
  generalize hW : World.alloc _ _ = W0 at HZ ⊢
  clear hW hmm
  generalize w.heap.size + 1 + 1 + 1 = wb at HZ ⊢
  generalize w.heap.size + 1 + 1 = gb at HZ ⊢
  generalize w.heap.size + 1 = mb at HZ ⊢
  obtain ⟨m, hm⟩ : ∃ m, w.heap.size = m := ⟨_, rfl⟩
  have HZ' := hid HZ.out
  rw [show SmW w W0 mb w.heap.size wb = SmW w W0 mb m wb by rw [hm]] at HZ'
  clear HZ hm
  refine Calls.mono (meet_any w W0 mb m wb _ [] [] HZ'.out t u tb to ub uo HT.out HU.out (fun p hp => absurd hp List.not_mem_nil) (by simp)) ?_
  rintro e W1 ⟨rfl, hn1, -, hsm⟩
  clear HZ'
  cases hlk : t.like u with
  | false =>
    have HE : Hid (R = false) := HNo.out (fun e => by have := like_of_eq e; rw [hlk] at this; cases this)
    have HN1 := hid hn1
    clear hsm hn1 hlk
    go_wp2_with fail
    go_ret
    exact ⟨by rw [HE.out]; rfl, HN1.out⟩
  | true =>
    obtain ⟨v1, hs1, -⟩ := hsm hlk
    have HI := hid (SInv.first hlk)
    have HS1 := hid hs1
    clear hsm hn1 hlk hs1
    generalize addM [] (t, u) = M1 at HI HS1
    generalize addS [] [] (t, u) = S1 at HI HS1
    go_wp2_with fail
    go_loopg [8] (psz S1) (fun g s8 wr => ∃ (v : Value) (M S : List (A × A)), psz S ≤ g ∧ Hid (SmW w wr mb m wb v M S) ∧ Hid (SInv t u M S))
    case atStart => exact ⟨v1, M1, S1, Nat.le_refl _, HS1, HI⟩
    case round =>
      clear HS1 HI v1 M1 S1 W1
      obtain ⟨v, M, S, hg, HW, HI⟩ := hrel
      have kw : wr.cell? ⟨wb, 0, none⟩ = some v := by rw [cell_blk HW.out.wc]; rfl
      rcases List.eq_nil_or_concat S with rfl | ⟨S0, p, rfl⟩
      · obtain ⟨ao, cap, rfl⟩ := row_len2 HW.out.row
        have HE : Hid (R = true) := HYes.out (by
          obtain ⟨c0, c1, c2, _, _, _, h1⟩ := HT.out
          obtain ⟨d0, d1, d2, _, _, _, h2⟩ := HU.out
          exact HI.out.same h1.dets h2.dets)
        have HN := hid HW.out.nu
        go_wp2_with fail
        go_ret
        exact ⟨by rw [HE.out]; rfl, HN.out⟩
      · rw [List.concat_eq_append] at *
        obtain ⟨gb2, cap, rfl, c1, c2, hcp1, hcp2, hgl, hpop⟩ := HW.out.pop
        have HPop := hid hpop
        obtain ⟨hp1, hp2, hlk, hk1⟩ := HI.out.sub p (HI.out.wait p (by simp))
        have hk2 : p.2.kids ≠ [] := fun e => by
          simp only [A.like, Bool.and_eq_true, decide_eq_true_eq] at hlk
          exact hk1 (List.length_eq_zero_iff.1 (by rw [hlk.2, e]; rfl))
        have hll : p.1.kids.length = p.2.kids.length := by
          simp only [A.like, Bool.and_eq_true, decide_eq_true_eq] at hlk
          exact hlk.2
        have HP := hid (And.intro hp1 (And.intro hp2 (And.intro hk1 hk2)))
        have HIn := hid HI.out.pop
        have hcnt : S0.length + 1 ≤ 1000000 := by
          have h1 := HI.out.cnt
          have h2 := HS.out
          have h3 : S0.length + 1 ≤ psz (S0 ++ [p]) := by
            have := psz_len (S0 ++ [p]) (fun q hq => (HI.out.sub q (HI.out.wait q hq)).2.2.2)
            simpa using this
          omega
        have HCnt := hid hcnt
        generalize hTop : psz (S0 ++ [p]) = top at hg HIn
        have HEv1 : Hid (p.1.ent.val = .slice (some ⟨p.1.ent.b, p.1.ent.o, none⟩) p.1.kids.length p.1.ent.cap) := by show _ = _; unfold E.val; rw [ent_l]
        have HEv2 : Hid (p.2.ent.val = .slice (some ⟨p.2.ent.b, p.2.ent.o, none⟩) p.1.kids.length p.2.ent.cap) := by show _ = _; unfold E.val; rw [ent_l, hll]
        rw [HEv1.out] at c1
        rw [HEv2.out] at c2
        have HLL := hid hll
        have hNl : p.1.kids.length ≤ 140737488355328 := by
          obtain ⟨e0, e1, e2, _, _, _, h1⟩ := HT.out
          exact (h1.subs p.1 hp1 hk1).len
        obtain ⟨N, hN⟩ : ∃ N : Nat, p.1.kids.length = N := ⟨_, rfl⟩
        rw [hN] at c1 c2 hNl
        have HN := hid hN
        obtain ⟨b1, hb1⟩ : ∃ b, p.1.ent.b = b := ⟨_, rfl⟩
        obtain ⟨o1, ho1⟩ : ∃ b, p.1.ent.o = b := ⟨_, rfl⟩
        obtain ⟨b2, hb2⟩ : ∃ b, p.2.ent.b = b := ⟨_, rfl⟩
        obtain ⟨o2, ho2⟩ : ∃ b, p.2.ent.o = b := ⟨_, rfl⟩
        generalize p.1.ent.cap = e1 at c1
        generalize p.2.ent.cap = e2 at c2
        rw [hb1, ho1] at c1
        rw [hb2, ho2] at c2
        have HBO := hid (And.intro hb1 (And.intro ho1 (And.intro hb2 ho2)))
        have HWC := hid HW.out.wc
        have fw : wr.frozen? ⟨wb, 0, none⟩ = false := free_blk HW.out.wc 0
        have hwl : wb < wr.heap.size := lt_of_block HW.out.wc
        obtain ⟨q, hq⟩ : ∃ q : Nat, S0.length = q := ⟨_, rfl⟩
        rw [hq] at c1 c2 hcp1 hcnt HPop kw
        have HQ := hid hq
        clear hpop hp1 hp2 hlk hk1 hk2 hll hN hb1 ho1 hb2 ho2 hq HI hTop
        rename World => V
        go_wp2_with fail
        have HW3 := hid ((HPop.out V (Mv.refl _ _)).next (Mv.alloc (fun _ => False) _ (.cells #[.slice (some ⟨b1, o1, none⟩) N e1, .slice (some ⟨b2, o2, none⟩) N e2] 76)))
        have hTw := heap_alloc_new (V.setCell ⟨wb, 0, none⟩ (.slice (some ⟨gb2, 0, none⟩) q cap)) (.cells #[.slice (some ⟨b1, o1, none⟩) N e1, .slice (some ⟨b2, o2, none⟩) N e2] 76)
        rw [show (V.setCell ⟨wb, 0, none⟩ (.slice (some ⟨gb2, 0, none⟩) q cap)).heap.size = V.heap.size by simp] at hTw
        generalize hW : World.alloc _ _ = W3 at HW3 hTw ⊢
        have HTw := hid hTw
        have HOw : Hid ((Value.slice (some ⟨gb2, 0, none⟩) q cap).ownBlock ≠ some V.heap.size) := fun e => by
          have e1 : gb2 = V.heap.size := by injection e
          omega
        obtain ⟨tw, htw⟩ : ∃ tw, V.heap.size = tw := ⟨_, rfl⟩
        rw [htw] at HTw HOw ⊢
        have HW4 : Hid (∃ v, SmW w W3 mb m wb v M S0 ∧ v.ownBlock ≠ some tw) := ⟨_, HW3.out, HOw.out⟩
        clear hW hTw HW3 HOw HPop HWC kw fw hwl c1 c2 hcp1 hcp2 hgl HW htw
        go_loopw [35] (fun iv wq => ∃ (i : Nat) (M S : List (A × A)), i ≤ N ∧ iv = .int .i64 (i : Int) ∧ Hid (∃ v, SmW w wq mb m wb v M S ∧ v.ownBlock ≠ some tw) ∧ Hid (wq.heap[tw]? = some (.cells #[.slice (some ⟨b1, o1, none⟩) N e1, .slice (some ⟨b2, o2, none⟩) N e2] 76 (0, 0))) ∧ Hid (SIn t u M S p i top)) (fun iv _ => N - (intOf iv).toNat)
        case atStart => exact ⟨0, M, S0, Nat.zero_le _, rfl, HW4, HTw, HIn⟩
        case round =>
          clear HW4 HTw HIn HCnt HQ W3
          obtain ⟨i, M, S, hi, rfl, HV, HTw, HIn⟩ := hrel
          have t0 : wr.cell? ⟨tw, 0, none⟩ = some (.slice (some ⟨b1, o1, none⟩) N e1) := by rw [cell_blk HTw.out]; rfl
          have t1 : wr.cell? ⟨tw, 1, none⟩ = some (.slice (some ⟨b2, o2, none⟩) N e2) := by rw [cell_blk HTw.out]; rfl
          by_cases hj : i < N
          · have hj' : (i : Int) < (N : Int) := by omega
            obtain ⟨x, hx⟩ : ∃ x, p.1.kids[i]? = some x := ⟨_, List.getElem?_eq_getElem (by have := HN.out; omega)⟩
            obtain ⟨y, hy⟩ : ∃ y, p.2.kids[i]? = some y := ⟨_, List.getElem?_eq_getElem (by have := HN.out; have := HLL.out; omega)⟩
            have HXY := hid (And.intro hx hy)
            have HMe : Hid (∀ W', Nu wr W' → ∃ v, v.ownBlock ≠ some tw ∧ Calls Tryd.prog 35 #[.pointer (some ⟨b1, o1 + i * 3, none⟩), .pointer (some ⟨b2, o2 + i * 3, none⟩), .pointer (some ⟨mb, 0, none⟩), .pointer (some ⟨wb, 0, none⟩)] W' (MeetOut w W' mb m wb v M S x y)) := fun W' hW' => by
              obtain ⟨v, hv, hne⟩ := HV.out
              obtain ⟨c0, c1, c2, _, _, _, h1⟩ := HT.out
              obtain ⟨d0, d1, d2, _, _, _, h2⟩ := HU.out
              have hx1 := kid_pc h1 HP.out.1 HP.out.2.2.1 hx
              have hy1 := kid_pc h2 HP.out.2.1 HP.out.2.2.2 hy
              rw [HBO.out.1, HBO.out.2.1] at hx1
              rw [HBO.out.2.2.1, HBO.out.2.2.2] at hy1
              refine ⟨v, hne, meet_any w W' mb m wb v M S (hv.next hW') x y b1 (o1 + i * 3) b2 (o2 + i * 3) hx1 hy1 (good_of h1 h2 HIn.out.sub) ?_⟩
              have h3 := HIn.out.cnt
              have h4 := HS.out
              have := psz_len S (fun q hq => (HIn.out.sub q (HIn.out.wait q hq)).2.2.2)
              omega
            clear hx hy
            go_upto_region 12 with fail
            obtain ⟨v, hne, hC⟩ := HMe.out wr.drew (Mv.drew _ _)
            have HC := hid hC
            have HTd : Hid (∀ w5, Mv (Fp2 m wb v) wr.drew w5 → w5.heap[tw]? = some (.cells #[.slice (some ⟨b1, o1, none⟩) N e1, .slice (some ⟨b2, o2, none⟩) N e2] 76 (0, 0))) := fun w5 h5 => by
              obtain ⟨v0, hv0, _⟩ := HV.out
              refine h5.heap (show wr.drew.heap[tw]? = _ from HTw.out) (fun e => ?_)
              rcases e with e | e | e
              · obtain ⟨es, c, h1, _⟩ := hv0.set
                have h2 := HTw.out
                rw [e, h1] at h2
                cases h2
              · have h1 := hv0.wc
                rw [← e, HTw.out] at h1
                cases h1
              · exact hne e
            have HNe := hid hne
            have hlt : tw < wr.heap.size := lt_of_block HTw.out
            have HLt := hid hlt
            clear hC hne HMe hlt
            cases hlk : x.like y with
            | true =>
              rw [show MeetOut w wr.drew mb m wb v M S x y = fun e W' => e = .returned (.bool true) ∧ Nu w W' ∧ Mv (Fp2 m wb v) wr.drew W' ∧ (true = true → ∃ v', SmW w W' mb m wb v' (addM M (x, y)) (addS M S (x, y)) ∧ (v'.ownBlock = v.ownBlock ∨ ∃ z, v'.ownBlock = some z ∧ wr.drew.heap.size ≤ z)) by unfold MeetOut; rw [hlk]] at HC
              have HNx := hid (HIn.out.step HXY.out.1 HXY.out.2 hlk)
              clear hlk
              go_region_with (go_at_call 35; refine Calls.mono HC.out ?_; rintro e w5 ⟨rfl, hn5, hm5, hs5⟩; have H5 := hid (And.intro hm5 hs5); clear hn5 hm5 hs5)
              all_goals
                go_wp2_with fail
                go_roundw
                case rel =>
                  obtain ⟨v5, hv5, ho5⟩ := H5.out.2 (by trivial)
                  refine ⟨i + 1, _, _, hj, by go_num, ⟨v5, hv5, fun e => ?_⟩, HTd.out _ H5.out.1, HNx⟩
                  rcases ho5 with h6 | ⟨z, h6, h7⟩
                  · exact HNe.out (h6.symm.trans e)
                  · have h8 : z = tw := by rw [h6] at e; injection e
                    have h9 := HLt.out
                    have h10 : wr.drew.heap.size = wr.heap.size := rfl
                    omega
                case measure => simp [intOf]; omega
            | false =>
              rw [show MeetOut w wr.drew mb m wb v M S x y = fun e W' => e = .returned (.bool false) ∧ Nu w W' ∧ Mv (Fp2 m wb v) wr.drew W' ∧ (false = true → ∃ v', SmW w W' mb m wb v' (addM M (x, y)) (addS M S (x, y)) ∧ (v'.ownBlock = v.ownBlock ∨ ∃ z, v'.ownBlock = some z ∧ wr.drew.heap.size ≤ z)) by unfold MeetOut; rw [hlk]] at HC
              have HE : Hid (R = false) := HNo.out (HIn.out.unlike HXY.out.1 HXY.out.2 hlk)
              clear hlk
              go_region_with (go_at_call 35; refine Calls.mono HC.out ?_; rintro e w5 ⟨rfl, hn5, -, -⟩; have H5 := hid hn5; clear hn5)
              all_goals
                go_wp2_with fail
                go_ret
                exact ⟨by rw [HE.out]; rfl, H5.out⟩
          · have hj' : ¬ (i : Int) < (N : Int) := by omega
            have hiN : i = N := by omega
            obtain ⟨h1, h2⟩ := HIn.out.out (by rw [HN.out, hiN])
            obtain ⟨v, hv, _⟩ := HV.out
            have HO := hid (And.intro hv h1)
            clear h1 hv
            go_wp2_with fail
            go_roundg (psz S)
            case measure => omega
            case rel => exact ⟨v, M, S, Nat.le_refl _, HO.out.1, HO.out.2⟩

set_option maxHeartbeats 1000000 in
theorem Same_any' (t u : A) (hs : t.t.size ≤ 1000000) (w : World) (c0 c1 c2 d0 d1 d2 : Value) (ht : AIn w w.heap.size c0 c1 c2 t) (hu : AIn w w.heap.size d0 d1 d2 u) :
    Looks 10 #[.agg #[c0, c1, c2], .agg #[d0, d1, d2]] w (.bool (t.t.same u.t)) := by
  obtain ⟨R, hR⟩ : ∃ R : Bool, t.t.same u.t = R := ⟨_, rfl⟩
  have hB := box3 w c0 c1 c2 24
  have hB2 := box3 (w.alloc (.cells #[c0, c1, c2] 24)) d0 d1 d2 24
  have hz1 : (w.alloc (.cells #[c0, c1, c2] 24)).heap.size = w.heap.size + 1 := by simp
  have hn := mv0 hB.mv hB2.mv
  have hz := hn.size
  have HS := hid (same_any ((w.alloc (.cells #[c0, c1, c2] 24)).alloc (.cells #[d0, d1, d2] 24)) t u w.heap.size 0 (w.heap.size + 1) 0 ⟨c0, c1, c2, cell_mv hB2.mv hB.a0 id, cell_mv hB2.mv hB.a1 id, cell_mv hB2.mv hB.a2 id, AIn.up (ht.mv hn (fun _ h => h.elim)) hz⟩ ⟨d0, d1, d2, by rw [← hz1]; exact hB2.a0, by rw [← hz1]; exact hB2.a1, by rw [← hz1]; exact hB2.a2, AIn.up (hu.mv hn (fun _ h => h.elim)) hz⟩ hs)
  rw [hR] at HS ⊢
  have HN := hid hn
  clear hB hB2 hn hz hz1 hR ht hu hs
  unfold Looks at HS ⊢
  go_enter Tryd.func10, Tryd.ntmps10
  go_wp2_with fail
  refine Calls.mono HS.out ?_
  rintro e w1 ⟨rfl, hn1⟩
  have HN1 := hid hn1
  clear hn1
  go_wp2_with fail
  go_ret
  exact ⟨rfl, mv0 HN.out HN1.out⟩
end Go.Proofs.YtidihaecgmbhpabDoor
