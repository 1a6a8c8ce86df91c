/-
  VParts, VPartsW.
-/
import Derived.LoopIn
import Derived.LoopNIn
import Derived.OwnWalkIn
import Derived.Shelf.Abstract
import Derived.Shelf.RegionOpen
import Derived.TacticsInMore
import Derived.Test.YtidihaecgmbhpabDoorM13
/-
  What ranging over a tree's parts does.
-/
set_option linter.unusedSimpArgs false
set_option linter.unusedVariables false
namespace Go.Proofs.YtidihaecgmbhpabDoor
open Go.RowKit Q
attribute [local go_sem] Oper.semAt_some

theorem subs_len_le {r a : A} (h : a ∈ r.subs) : a.subs.length ≤ r.subs.length := by
  revert h
  refine A.ind (P := fun r => a ∈ r.subs → a.subs.length ≤ r.subs.length) (fun k n b o c l ih h => ?_) r
  simp only [A.subs, List.mem_cons] at h
  rcases h with rfl | h
  · exact Nat.le_refl _
  · rw [subss_flat] at h
    obtain ⟨y, h1, h2⟩ := List.mem_flatMap.1 h
    have := ih y h1 h2
    have h3 : y.subs.length ≤ (A.subss l).length := by
      clear h h2 ih this
      induction l with
      | nil => cases h1
      | cons x l ih2 =>
        simp only [A.subss, List.length_append]
        rcases List.mem_cons.1 h1 with rfl | h1
        · omega
        · have := ih2 h1
          omega
    simp only [A.subs, List.length_cons]
    omega
theorem kids_len (a : A) : a.kids.length < a.subs.length := by
  obtain ⟨k, n, b, o, c, l⟩ := a
  have : l.length ≤ (A.subss l).length := by
    induction l with
    | nil => simp
    | cons x l ih =>
      have := List.length_pos_of_mem (subs_self x)
      simp only [A.subss, List.length_append, List.length_cons]
      omega
  simp only [A.kids, A.subs, List.length_cons]
  omega
theorem kids_small {r a : A} (h : a ∈ r.subs) (hs : r.t.size ≤ 1000000) : a.kids.length ≤ 1000000 := by
  have h1 := subs_len_le h
  have h2 := kids_len a
  rw [subs_len r] at h1
  omega

/-- Within a row: k of its parts are done. -/
structure PIn {w : World} {B : Nat} {root : A} (cb pb : Nat) (J : List (PE w B pb root) → World → Prop) (H : Nat) (wr : World) (g m : Nat) (v : Value) (L : List E) (pre : List (PE w B pb root)) (i k : Nat) (el : List A) : Prop where
  rows : RowsIs wr H g m v L
  same : TSame cb pb root w wr
  j : J pre wr
  rt : ∃ x ∈ pre, PE.a x = root
  old : ∀ j, j < i → ∀ e, L[j]? = some e → ∀ a ∈ e.l, ∃ x ∈ pre, PE.a x = a
  new : ∀ a ∈ el.take k, ∃ x ∈ pre, PE.a x = a
  len : pre.length ≤ 1 + i * 1000001 + k

theorem PMid.inn {w : World} {B : Nat} {root : A} {cb pb : Nat} {J : List (PE w B pb root) → World → Prop} {H : Nat} {wr : World} {g m : Nat} {v : Value} {L : List E} {pre : List (PE w B pb root)} {i : Nat} (h : PMid cb pb J H wr g m v L pre i) (el : List A) : PIn cb pb J H wr g m v L pre i 0 el :=
  ⟨h.rows, h.same, h.j, h.rt, fun j hj e he a ha => (h.done j hj e he a ha).1, fun a ha => by simp at ha, h.len⟩

theorem mem_grow {α β : Type} {f : α → β} {pre : List α} {x : α} {b : β} (h : ∃ y ∈ pre, f y = b) : ∃ y ∈ pre ++ [x], f y = b := by
  obtain ⟨y, h1, h2⟩ := h
  exact ⟨y, by simp [h1], h2⟩

theorem PIn.step {w : World} {B : Nat} {root : A} {cb pb : Nat} {J : List (PE w B pb root) → World → Prop} {H : Nat} {wr : World} {g m : Nat} {v : Value} {L : List E} {pre : List (PE w B pb root)} {i k : Nat} {el : List A} (h : PIn cb pb J H wr g m v L pre i k el)
    {c0 c1 c2 : Value} (hr : AIn w B c0 c1 c2 root) (hB : B ≤ H) (ho : ∀ e ∈ L, ∃ a ∈ root.subs, a.kids ≠ [] ∧ e = a.ent) {W' : World} {x : PE w B pb root} (hx : el[k]? = some x.a) (hj : J (pre ++ [x]) W') (hk : KpP cb pb root wr W') : PIn cb pb J H W' g m v L (pre ++ [x]) i (k + 1) el := by
  have hs := h.same.kp hk
  refine ⟨h.rows.kp hk hr hs hB ho, hs, hj, mem_grow h.rt, fun j h1 e h2 a ha => mem_grow (h.old j h1 e h2 a ha), fun a ha => ?_, by have := h.len; rw [List.length_append]; simp; omega⟩
  rw [List.take_add_one, hx] at ha
  rcases List.mem_append.1 ha with h1 | h1
  · exact mem_grow (h.new a h1)
  · simp at h1
    exact ⟨x, by simp, h1.symm⟩

theorem PIn.mid {w : World} {B : Nat} {root : A} {cb pb : Nat} {J : List (PE w B pb root) → World → Prop} {H : Nat} {w0 wr w' : World} {g m : Nat} {v : Value} {L : List E} {pre0 pre : List (PE w B pb root)} {i k : Nat} {e : E} (h : PIn cb pb J H wr g m v L pre i k e.l) (h0 : PMid cb pb J H w0 g m v L pre0 i)
    {c0 c1 c2 : Value} (hr : AIn w B c0 c1 c2 root) (hs : root.t.size ≤ 1000000) (hk : e.l.length ≤ k) (hk2 : k ≤ 1000000) (he : L[i]? = some e) (hJ : Stays H ItP J) (ha : Added wr w' H g m v (addL L e.l)) : ∃ v', PMid cb pb J H w' g m v' (addL L e.l) pre (i + 1) := by
  obtain ⟨m1, v', r1, o1⟩ := ha
  obtain ⟨a, a1, a2, a3⟩ := h0.org e (List.mem_of_getElem? he)
  have hal : e.l = a.kids := by rw [a3, ent_l]
  have hcov := addL_cov (U := root.subs) hr.dets (l := e.l) (L := L) (fun x hx => subs_kid a1 (by rw [← hal]; exact hx)) h0.org
  refine ⟨v', r1, h.same.mv m1 (fun x hx => Nat.le_trans h0.hH (h.rows.fp hx).1), hJ _ _ _ h.j (m1.mono (fun x hx => .inl ⟨(h.rows.fp hx).1, h.rows.it hx⟩)), addL_nodup h0.nd, fun e' he' => ?_, h.rt, fun hk => (h0.rc hk).pre (addL_pre _ _), fun j hj e' he' x hx => ?_, ?_, h0.hH⟩
  · rcases addL_org he' with h1 | ⟨x, h1, h2, h3⟩
    · exact h0.org e' h1
    · exact ⟨x, subs_kid a1 (by rw [← hal]; exact h1), h2, h3⟩
  · have hil : i < L.length := (List.getElem?_eq_some_iff.1 he).1
    have hje : L[j]? = some e' := by
      obtain ⟨t, ht⟩ := addL_pre L e.l
      rw [← ht, List.getElem?_append_left (by omega)] at he'
      exact he'
    by_cases hji : j < i
    · refine ⟨h.old j hji e' hje x hx, fun hk' => ((h0.done j hji e' hje x hx).2 hk').pre (addL_pre _ _)⟩
    · obtain rfl : j = i := by omega
      obtain rfl : e' = e := Option.some.inj (hje.symm.trans he)
      refine ⟨h.new x (by rw [List.take_of_length_le hk]; exact hx), hcov x hx⟩
  · have := h.len
    rw [Nat.add_mul]
    omega

theorem PMid.start {w : World} {B : Nat} {root : A} {cb pb : Nat} {J : List (PE w B pb root) → World → Prop} {H : Nat} {wr w' : World} {g m : Nat} {x0 : PE w B pb root} (h0 : PE.a x0 = root) (hr0 : RowsIs wr H g m (.slice none 0 0) []) (hs : TSame cb pb root w wr) (hj : J [x0] wr) (hH : w.heap.size ≤ H) (hJ : Stays H ItP J) (ha : Added wr w' H g m (.slice none 0 0) (addA [] root)) : ∃ v', PMid cb pb J H w' g m v' (addA [] root) [x0] 0 := by
  obtain ⟨m1, v', r1, o1⟩ := ha
  refine ⟨v', r1, hs.mv m1 (fun x hx => Nat.le_trans hH (hr0.fp hx).1), hJ _ _ _ hj (m1.mono (fun x hx => .inl ⟨(hr0.fp hx).1, hr0.it hx⟩)), addA_nodup (by simp), fun e he => ?_, ⟨x0, by simp, h0⟩, fun hk => addA_cov (fun e he => absurd he List.not_mem_nil) hk, fun j hj => by omega, by simp, hH⟩
  rcases addA_org he with h | ⟨h1, h2⟩
  · exact absurd h List.not_mem_nil
  · exact ⟨root, subs_self _, h1, h2⟩

theorem PMid.cells {w : World} {B : Nat} {root : A} {cb pb : Nat} {J : List (PE w B pb root) → World → Prop} {H : Nat} {wr : World} {g m : Nat} {v : Value} {L : List E} {pre : List (PE w B pb root)} {i : Nat} (h : PMid cb pb J H wr g m v L pre i) : ∃ ao cap, v = .slice ao L.length cap ∧ wr.cell? ⟨g, 1, none⟩ = some (.slice ao L.length cap) := by
  obtain ⟨ao, cap, rfl⟩ := row_len h.rows.row
  exact ⟨ao, cap, rfl, by rw [cell_blk h.rows.blk]; rfl⟩

theorem PMid.blen {w : World} {B : Nat} {root : A} {cb pb : Nat} {J : List (PE w B pb root) → World → Prop} {H : Nat} {wr : World} {g m : Nat} {v : Value} {L : List E} {pre : List (PE w B pb root)} {i : Nat} (h : PMid cb pb J H wr g m v L pre i) (hs : root.t.size ≤ 1000000) {e : E} (he : e ∈ L) (q : Nat) : (addL L (e.l.take q)).length ≤ 1000000 := by
  obtain ⟨x, x1, x2, rfl⟩ := h.org e he
  have := rows_le (U := root.subs) (L := addL L (x.ent.l.take q)) (addL_nodup h.nd) (fun e he => by
    rcases addL_org he with h1 | ⟨a, h1, h2, h3⟩
    · obtain ⟨y, h1, h2, h3⟩ := h.org e h1
      exact ⟨y, h1, h3⟩
    · have := List.mem_of_mem_take h1
      rw [ent_l] at this
      exact ⟨a, subs_kid x1 this, h3⟩)
  rw [subs_len] at this
  omega

end Go.Proofs.YtidihaecgmbhpabDoor
/-
  What ranging over a tree's parts does: the walk.
-/
set_option linter.unusedSimpArgs false
set_option linter.unusedVariables false
namespace Go.Proofs.YtidihaecgmbhpabDoor
open Go.RowKit Q
attribute [local go_sem] Oper.semAt_some

/-- All parts are there. -/
def AllP {w : World} {B pb : Nat} (root : A) (xs : List (PE w B pb root)) : Prop := ∀ a ∈ root.subs, ∃ x ∈ xs, PE.a x = a

/-- A part's place as a value. -/
def PE.v {w : World} {B pb : Nat} {root : A} (x : PE w B pb root) : Array Value := #[.pointer (some ⟨x.1.1, x.1.2.1, none⟩)]

theorem newRows_gen (w : World) : Calls Tryd.prog 37 #[] w fun e w' => e = .returned (.pointer (some ⟨w.heap.size + 1, 0, none⟩)) ∧ Nu w w' ∧ ∀ B, B ≤ w.heap.size → RowsIs w' B (w.heap.size + 1) w.heap.size (.slice none 0 0) [] := by
  refine Calls.mono (newRows_any w) ?_
  rintro e w' ⟨rfl, rfl⟩
  exact ⟨rfl, mv0 (Mv.alloc _ _ _) (Mv.alloc _ _ _), fun B hB => new_rows w B hB⟩

set_option maxHeartbeats 4000000 in
set_option maxRecDepth 100000 in
theorem parts_seq (n : Nat) (hn : 1 ≤ n) (w : World) (B cb pb po : Nat) (hB : B ≤ w.heap.size) (c0 c1 c2 : Value) (root : A) (hc : w.cell? ⟨cb, 0, none⟩ = some (.pointer (some ⟨pb, po, none⟩)))
    (h0 : w.cell? ⟨pb, po, none⟩ = some c0) (h1 : w.cell? ⟨pb, po + 1, none⟩ = some c1) (h2 : w.cell? ⟨pb, po + 2, none⟩ = some c2) (hA : AIn w B c0 c1 c2 root) (hs : root.t.size ≤ 1000000) :
    SeqI n 36 #[.pointer (some ⟨cb, 0, none⟩)] (fun x : PE w B pb root => x.v) ItP (fun _ => KpP cb pb root) (AllP root) (fun _ => True) 2000000000000 w := fun l J Jx W hW hJ hJx hY hj0 => by
  have HA := hid hA
  have HS := hid hs
  have HJ := hid hJ
  have HY := hid hY
  have HH : Hid (w.heap.size ≤ W.heap.size) := hW.size
  have HB := hid hB
  have HT0 : Hid (TSame cb pb root w W) := fun y hy o h1 h2 => hW.heap h1 id
  have HC2 : Hid (∀ V, TSame cb pb root w V → V.cell? ⟨cb, 0, none⟩ = some (.pointer (some ⟨pb, po, none⟩)) ∧ V.cell? ⟨pb, po + 2, none⟩ = some c2 ∧ ∀ B', B ≤ B' → AIn V B' c0 c1 c2 root) := fun V hV =>
    ⟨cell_same (hV _ (.inl rfl)) hc, cell_same (hV _ (.inr (.inl rfl))) h2, fun B' hB' => hA.same hB' (fun x hx hk => hV _ (.inr (.inr ⟨x, hx, hk, rfl⟩)))⟩
  obtain ⟨x0, hx0, hxa⟩ : ∃ x0 : PE w B pb root, x0.v = #[.pointer (some ⟨pb, po, none⟩)] ∧ PE.a x0 = root := ⟨⟨(pb, po, root), subs_self _, .inl rfl, c0, c1, c2, h0, h1, h2, hA⟩, rfl, rfl⟩
  have HX := hid hxa
  have hcW : W.cell? ⟨cb, 0, none⟩ = some (.pointer (some ⟨pb, po, none⟩)) := (HC2.out W HT0.out).1
  have HJ0 := hid hj0
  clear hA hs hJ hY hj0 hc h0 h1 h2 hxa hW hB
  refine callsIn_of_wp Tryd.func36 rfl trivial ?_ rfl
  simp only [Tryd.ntmps36, List.size_toArray, List.length_cons, List.length_nil, Nat.reduceAdd, Nat.reduceSub, Array.replicate_succ, Array.replicate_zero, List.push_toArray, List.append_toArray, List.nil_append, List.cons_append]
  gi_wp2_with fail
  obtain ⟨fn, tmps, assign, body, hy, hR⟩ := HY.out [] x0 W HJ0.out (by simp)
  rw [hx0] at hy
  rw [hy, Oper.uponIn_round]
  refine ⟨fun _ => hn, hR.mono ?_⟩
  clear hR hy fn tmps assign body
  rintro e W1 (⟨rfl, hJ1, hK1⟩ | ⟨rfl, hJx1, _⟩)
  · have HT1 := hid (HT0.out.kp hK1)
    have HJ1 : Hid (J [x0] W1) := hJ1
    have hszz := hK1.size
    have HZ1 := hid hszz
    clear hJ1 hK1 hcW hszz
    gi_wp2_with (first
      | (refine ⟨trivial, ?_⟩; gi_at_call 37; refine (callsIn_wide.2 (newRows_gen _)).mono ?_; rintro e w1 ⟨rfl, hm1, hr1⟩; have HR1 := hid (hr1 W.heap.size HZ1.out); have HT2 := hid (HT1.out.mv hm1 (fun _ h => h.elim)); have HM1 := hid hm1; obtain ⟨hcc, hc2, hA2⟩ := HC2.out w1 HT2.out; have HA2 := hid (hA2 W.heap.size (Nat.le_trans HB.out HH.out)); clear hr1 hm1 hA2)
      | (refine ⟨trivial, ?_⟩; gi_at_call 38; refine (callsIn_wide.2 (addA_any w1 W.heap.size _ _ _ [] HR1.out c0 c1 c2 root HA2.out (by simp))).mono ?_; rintro e w2 ⟨rfl, had⟩; have HP : Hid (∃ v', PMid cb pb J W.heap.size w2 (W1.heap.size + 1) W1.heap.size v' (addA [] root) [x0] 0) := PMid.start HX.out HR1.out HT2.out (HJ.out _ _ _ HJ1.out (HM1.out.mono (fun _ h => h.elim))) HH.out HJ.out had; clear had hcc hc2))
    clear HR1 HT2 HM1 HA2
    generalize W1.heap.size + 1 = g at HP ⊢
    generalize W1.heap.size = m at HP ⊢
    clear HJ1 HJ0 HZ1 HT1 HT0 HX hx0
    gi_loopw [4] (fun iv wr => ∃ (i : Nat) (v : Value) (L : List E) (pre : List (PE w B pb root)), i ≤ L.length ∧ iv = .int .i64 (i : Int) ∧ Hid (PMid cb pb J W.heap.size wr g m v L pre i)) (fun iv _ => 1000001 - (intOf iv).toNat)
    case atStart =>
      obtain ⟨v', h⟩ := HP.out
      exact ⟨0, v', _, _, by omega, rfl, h⟩
    case round =>
      rename World => V
      clear HP
      obtain ⟨i, v, L, pre, hi, rfl, HP⟩ := hrel
      obtain ⟨ao, cap, rfl, k1⟩ := HP.out.cells
      obtain ⟨N, hN⟩ : ∃ N : Nat, L.length = N := ⟨_, rfl⟩
      have hNb : N ≤ 1000000 := by rw [← hN]; exact HP.out.small HS.out
      have HNN := hid hN
      rw [hN] at k1 hi
      clear hN
      by_cases hj : i < N
      · have hj' : (i : Int) < (N : Int) := by omega
        obtain ⟨e, he⟩ : ∃ e, L[i]? = some e := ⟨_, List.getElem?_eq_getElem (by have := HNN.out; omega)⟩
        obtain ⟨ga, hga, kc⟩ : ∃ ga, ao = some ⟨ga, 0, none⟩ ∧ V.cell? ⟨ga, i, none⟩ = some e.val := by
          obtain ⟨g', cap', h1, h2⟩ := row_cell (i := i) (x := e.val) HP.out.rows.row (by rw [List.getElem?_map, he]; rfl)
          injection h1 with h1
          exact ⟨g', h1, h2⟩
        subst hga
        have HE : Hid (L[i]? = some e) := he
        have HEm : Hid (e ∈ L) := List.mem_of_getElem? he
        have HBl := hid (fun q => HP.out.blen HS.out HEm.out q)
        obtain ⟨M, hM⟩ : ∃ M : Nat, e.l.length = M := ⟨_, rfl⟩
        have hMb : M ≤ 1000000 := by
          obtain ⟨a, a1, a2, a3⟩ := HP.out.org e HEm.out
          rw [← hM, a3, ent_l]
          exact kids_small a1 HS.out
        have HMM := hid hM
        have HEv : Hid (e.val = .slice (some ⟨e.b, e.o, none⟩) M e.cap) := by show _ = _; unfold E.val; rw [hM]
        rw [HEv.out] at kc
        have HIn : Hid (PIn cb pb J W.heap.size V g m (.slice (some ⟨ga, 0, none⟩) L.length cap) L pre i 0 e.l) := HP.out.inn e.l
        have HPl : Hid (∀ k a, e.l[k]? = some a → ∃ x : PE w B pb root, x.v = #[.pointer (some ⟨e.b, e.o + k * 3, none⟩)] ∧ PE.a x = a) := fun k a hk => by
          obtain ⟨y, y1, y2, y3⟩ := HP.out.org e HEm.out
          have := kid_part (pb := pb) HA.out y1 (i := k) (x := a) (by rw [← ent_l, ← y3]; exact hk)
          rw [← y3] at this
          exact ⟨⟨_, this⟩, rfl, rfl⟩
        generalize heb : e.b = eb at kc HEv HPl
        generalize heo : e.o = eo at kc HEv HPl
        generalize hec : e.cap = ec at kc HEv
        clear heb heo hec he hM
        gi_wp2_with fail
        gi_loopw [36] (fun kv w4 => ∃ (k : Nat) (pre' : List (PE w B pb root)), k ≤ M ∧ kv = .int .i64 (k : Int) ∧ Hid (PIn cb pb J W.heap.size w4 g m (.slice (some ⟨ga, 0, none⟩) L.length cap) L pre' i k e.l)) (fun kv _ => M - (intOf kv).toNat)
        case atStart => exact ⟨0, pre, by omega, rfl, HIn⟩
        case round =>
          obtain ⟨k, pre', hk, rfl, HI⟩ := hrel
          by_cases hkM : k < M
          · have hk' : (k : Int) < (M : Int) := by omega
            obtain ⟨a, ha⟩ : ∃ a, e.l[k]? = some a := ⟨_, List.getElem?_eq_getElem (by have := HMM.out; omega)⟩
            obtain ⟨x, hxv, hxa⟩ := HPl.out k a ha
            have HXa : Hid (e.l[k]? = some x.a) := by show _ = _; rw [hxa]; exact ha
            obtain ⟨fn, tmps, assign, body, hy, hR⟩ := HY.out pre' x wr HI.out.j (by have := HI.out.len; omega)
            rw [hxv] at hy
            have HRR := hid hR
            clear ha hxv hxa hR
            gi_wp2_with fail
            refine HRR.out.mono ?_
            clear HRR hy fn tmps assign body
            rintro e5 W5 (⟨rfl, hJ5, hK5⟩ | ⟨rfl, hJx5, _⟩)
            · have HI5 := hid (HI.out.step HA.out (Nat.le_trans HB.out HH.out) HP.out.org HXa.out hJ5 hK5)
              clear hJ5 hK5
              gi_wp2_with fail
              go_roundw
              case rel => exact ⟨k + 1, _, by omega, by go_num, HI5⟩
              case measure => simp [intOf]; omega
            · have HJ5 : Hid (Jx (pre' ++ [x]) W5) := hJx5
              clear hJx5
              gi_wp2_with fail
              refine bodyPost_ret (results_none rfl _ _ _) rfl ?_
              exact ⟨⟨_, rfl⟩, .inr ⟨_, trivial, HJ5.out⟩⟩
          · have hk' : ¬ (k : Int) < (M : Int) := by omega
            have hAR := HI.out.rows.ent e HEm.out
            have HC := hid (addBelow_any wr _ _ _ _ _ HI.out.rows e hAR HBl.out)
            clear hAR
            rw [HEv.out] at HC
            gi_wp2_with (refine ⟨trivial, ?_⟩; gi_at_call 39; refine (callsIn_wide.2 HC.out).mono ?_; rintro e6 w6 ⟨rfl, had⟩; have HP6 := hid (HI.out.mid HP.out HA.out HS.out (by have := HMM.out; omega) (by omega) HE.out HJ.out had); clear had HC)
            obtain ⟨v6, hP6⟩ := HP6.out
            have hle : i + 1 ≤ (addL L e.l).length := by
              have := (addL_pre L e.l).length_le
              have := HNN.out
              omega
            exact ⟨⟨i + 1, v6, _, _, hle, by go_num, hP6⟩, by simp [intOf]; omega⟩
      · have hj' : ¬ (i : Int) < (N : Int) := by omega
        have HX : Hid (AllP root pre) := HP.out.all (by have := HNN.out; omega)
        have HJf := hid HP.out.j
        gi_wp2_with fail
        go_end0
        exact ⟨⟨_, rfl⟩, .inl ⟨pre, HX.out, HJf.out⟩⟩
  · gi_wp2_with fail
    refine bodyPost_ret (results_none rfl _ _ _) rfl ?_
    exact ⟨⟨_, rfl⟩, .inr ⟨_, trivial, hJx1⟩⟩

end Go.Proofs.YtidihaecgmbhpabDoor
