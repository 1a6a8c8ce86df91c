/-
  VSame0.
-/
import Derived.Test.YtidihaecgmbhpabDoorM29
/-
  Two trees side by side, row by row: what is kept; laws. No walk.
-/
set_option linter.unusedSimpArgs false
set_option linter.unusedVariables false
namespace Go.Proofs.YtidihaecgmbhpabDoor
open Go.RowKit Q

/-- Two parts alike, what lies below left out. -/
def A.like (x y : A) : Bool := decide (x.kind = y.kind) && decide (x.name = y.name) && decide (x.kids.length = y.kids.length)

abbrev K5 := Nat × Nat × Nat × Nat × Nat
def key2 (p : A × A) : K5 := (p.1.ent.b, p.1.ent.o, p.2.ent.b, p.2.ent.o, p.1.kids.length)
def kv5 (x : K5) : Value := .agg #[.pointer (some ⟨x.1, x.2.1, none⟩), .pointer (some ⟨x.2.2.1, x.2.2.2.1, none⟩), .int .i64 (x.2.2.2.2 : Int)]
def val2 (p : A × A) : List Value := [p.1.ent.val, p.2.ent.val]

/-- One more pair, if its rows are not there. -/
def newP (M : List (A × A)) (p : A × A) : Bool := decide (p.1.kids ≠ []) && decide (key2 p ∉ M.map key2)
def addM (M : List (A × A)) (p : A × A) : List (A × A) := if newP M p = true then M ++ [p] else M
def addS (M S : List (A × A)) (p : A × A) : List (A × A) := if newP M p = true then S ++ [p] else S

/-- A pair that has been met. -/
def Met (M : List (A × A)) (x y : A) : Prop := x.like y = true ∧ (x.kids ≠ [] → key2 (x, y) ∈ M.map key2)
theorem Met.more {M N : List (A × A)} {x y : A} (h : Met M x y) (hs : ∀ p ∈ M, p ∈ N) : Met N x y := ⟨h.1, fun hk => by
  obtain ⟨p, h1, h2⟩ := List.mem_map.1 (h.2 hk)
  exact List.mem_map.2 ⟨p, hs p h1, h2⟩⟩
theorem addM_more (M : List (A × A)) (p : A × A) : ∀ q ∈ M, q ∈ addM M p := fun q hq => by
  unfold addM
  split
  · exact List.mem_append_left _ hq
  · exact hq
theorem addS_more (M S : List (A × A)) (p : A × A) : ∀ q ∈ S, q ∈ addS M S p := fun q hq => by
  unfold addS
  split
  · exact List.mem_append_left _ hq
  · exact hq
theorem addM_met (M : List (A × A)) {x y : A} (h : x.like y = true) : Met (addM M (x, y)) x y := ⟨h, fun hk => by
  unfold addM newP
  by_cases hm : key2 (x, y) ∈ M.map key2
  · simp [hm]
  · simp [hm, hk]⟩

def dn (M : List (A × A)) (p : A × A) : Prop := ∀ (i : Nat) x y, p.1.kids[i]? = some x → p.2.kids[i]? = some y → Met M x y
def psz (S : List (A × A)) : Nat := (S.map fun p => T.sizes (A.ts p.1.kids)).sum

/-- Between two rounds. -/
structure SInv (t u : A) (M S : List (A × A)) : Prop where
  sub : ∀ p ∈ M, p.1 ∈ t.subs ∧ p.2 ∈ u.subs ∧ p.1.like p.2 = true ∧ p.1.kids ≠ []
  wait : ∀ p ∈ S, p ∈ M
  eqv : t.t = u.t → ∀ p ∈ M, p.1.t = p.2.t
  done : ∀ p ∈ M, p ∈ S ∨ dn M p
  root : Met M t u
  cnt : M.length + psz S ≤ t.t.size

/-- Within a row. -/
structure SIn (t u : A) (M S : List (A × A)) (p : A × A) (i top : Nat) : Prop where
  sub : ∀ p ∈ M, p.1 ∈ t.subs ∧ p.2 ∈ u.subs ∧ p.1.like p.2 = true ∧ p.1.kids ≠ []
  wait : ∀ p ∈ S, p ∈ M
  eqv : t.t = u.t → ∀ p ∈ M, p.1.t = p.2.t
  done : ∀ q ∈ M, q ∈ S ∨ q = p ∨ dn M q
  root : Met M t u
  cnt : M.length + psz S + T.sizes (A.ts (p.1.kids.drop i)) ≤ t.t.size
  here : p ∈ M
  part : ∀ (j : Nat) x y, j < i → p.1.kids[j]? = some x → p.2.kids[j]? = some y → Met M x y
  low : psz S + i + T.sizes (A.ts (p.1.kids.drop i)) ≤ top

theorem like_of_eq {x y : A} (h : x.t = y.t) : x.like y = true := by
  obtain ⟨k, n, b, o, c, l⟩ := x
  obtain ⟨k', n', b', o', c', l'⟩ := y
  simp only [A.t, T.mk.injEq, A.ts_map] at h
  obtain ⟨rfl, rfl, hl⟩ := h
  have := congrArg List.length hl
  simp at this
  simp [A.like, A.kind, A.name, A.kids, this]
theorem kid_eq {x y a b : A} {i : Nat} (h : x.t = y.t) (ha : x.kids[i]? = some a) (hb : y.kids[i]? = some b) : a.t = b.t := by
  obtain ⟨k, n, b1, o, c, l⟩ := x
  obtain ⟨k', n', b', o', c', l'⟩ := y
  simp only [A.t, T.mk.injEq, A.ts_map] at h
  obtain ⟨rfl, rfl, hl⟩ := h
  simp only [A.kids] at ha hb
  have := congrArg (fun l => l[i]?) hl
  simp [ha, hb] at this
  exact this
theorem kids_drop (l : List A) (i : Nat) (a : A) (h : l[i]? = some a) : T.sizes (A.ts (l.drop i)) = a.t.size + T.sizes (A.ts (l.drop (i + 1))) := by
  obtain ⟨hi, rfl⟩ := List.getElem?_eq_some_iff.1 h
  rw [List.drop_eq_getElem_cons hi]
  simp [A.ts, T.sizes]
theorem size_kids (a : A) : a.t.size = 1 + T.sizes (A.ts a.kids) := by
  obtain ⟨k, n, b, o, c, l⟩ := a
  simp [A.t, T.size, A.kids]
theorem psz_append (S S' : List (A × A)) : psz (S ++ S') = psz S + psz S' := by simp [psz]
theorem psz_one (p : A × A) : psz [p] = T.sizes (A.ts p.1.kids) := by simp [psz]

/-- The first pair. -/
theorem SInv.first {t u : A} (h : t.like u = true) : SInv t u (addM [] (t, u)) (addS [] [] (t, u)) := by
  have hm := addM_met [] h
  unfold addM at hm ⊢
  unfold addS
  by_cases hk : newP [] (t, u) = true
  · rw [if_pos hk] at hm ⊢
    have hk' : t.kids ≠ [] := by simpa [newP] using hk
    refine ⟨fun p hp => ?_, fun p hp => hp, fun he p hp => ?_, fun p hp => .inl hp, hm, ?_⟩
    · obtain rfl := List.mem_singleton.1 hp
      exact ⟨subs_self t, subs_self u, h, hk'⟩
    · obtain rfl := List.mem_singleton.1 hp
      exact he
    · have := size_kids t
      simp only [List.nil_append, psz_one, List.length_singleton]
      omega
  · rw [if_neg hk] at hm ⊢
    exact ⟨fun p hp => absurd hp List.not_mem_nil, fun p hp => hp, fun _ p hp => absurd hp List.not_mem_nil, fun p hp => absurd hp List.not_mem_nil, hm, by simp [psz]⟩

theorem SInv.pop {t u : A} {M S : List (A × A)} {p : A × A} (h : SInv t u M (S ++ [p])) : SIn t u M S p 0 (psz (S ++ [p])) := by
  have hc := h.cnt
  rw [psz_append, psz_one] at hc
  refine ⟨h.sub, fun q hq => h.wait q (List.mem_append_left _ hq), h.eqv, fun q hq => ?_, h.root, by simpa [Nat.add_assoc] using hc, h.wait p (by simp), fun j x y hj => absurd hj (Nat.not_lt_zero _), by rw [psz_append, psz_one]; simp⟩
  rcases h.done q hq with h1 | h1
  · rcases List.mem_append.1 h1 with h1 | h1
    · exact .inl h1
    · exact .inr (.inl (List.mem_singleton.1 h1))
  · exact .inr (.inr h1)

theorem SIn.step {t u : A} {M S : List (A × A)} {p : A × A} {i top : Nat} {x y : A} (h : SIn t u M S p i top) (hx : p.1.kids[i]? = some x) (hy : p.2.kids[i]? = some y) (hl : x.like y = true) : SIn t u (addM M (x, y)) (addS M S (x, y)) p (i + 1) top := by
  have hm := addM_met M hl
  have hmore := addM_more M (x, y)
  have hmem : ∀ q, q ∈ addM M (x, y) → q ∈ M ∨ (q = (x, y) ∧ newP M (x, y) = true) := fun q hq => by
    unfold addM at hq
    split at hq
    · rename_i hn
      rcases List.mem_append.1 hq with h1 | h1
      · exact .inl h1
      · exact .inr ⟨List.mem_singleton.1 h1, hn⟩
    · exact .inl hq
  have hxy : x ∈ t.subs ∧ y ∈ u.subs := ⟨subs_kid (h.sub p h.here).1 (List.mem_of_getElem? hx), subs_kid (h.sub p h.here).2.1 (List.mem_of_getElem? hy)⟩
  have hd := kids_drop p.1.kids i x hx
  have hsz := size_kids x
  have hc := h.cnt
  have hlw := h.low
  refine ⟨fun q hq => ?_, fun q hq => ?_, fun he q hq => ?_, fun q hq => ?_, h.root.more hmore, ?_, hmore p h.here, fun j a b hj ha hb => ?_, ?_⟩
  · rcases hmem q hq with h1 | ⟨rfl, hn⟩
    · exact h.sub q h1
    · have hk : x.kids ≠ [] := by
        have := hn
        simp only [newP, Bool.and_eq_true, decide_eq_true_eq] at this
        exact this.1
      exact ⟨hxy.1, hxy.2, hl, hk⟩
  · unfold addS at hq
    unfold addM
    split at hq
    · rename_i hn
      rw [if_pos hn]
      rcases List.mem_append.1 hq with h1 | h1
      · exact List.mem_append_left _ (h.wait q h1)
      · exact List.mem_append_right _ h1
    · rename_i hn
      rw [if_neg hn]
      exact h.wait q hq
  · rcases hmem q hq with h1 | ⟨rfl, _⟩
    · exact h.eqv he q h1
    · exact kid_eq (h.eqv he p h.here) hx hy
  · rcases hmem q hq with h1 | ⟨rfl, hn⟩
    · rcases h.done q h1 with h2 | h2 | h2
      · exact .inl (addS_more M S _ q h2)
      · exact .inr (.inl h2)
      · exact .inr (.inr fun j a b ha hb => (h2 j a b ha hb).more hmore)
    · left
      unfold addS
      rw [if_pos hn]
      simp
  · unfold addM addS
    split
    · rw [List.length_append, psz_append, psz_one, List.length_singleton]
      simp only
      omega
    · omega
  · by_cases hji : j = i
    · subst hji
      rw [hx] at ha
      rw [hy] at hb
      cases ha
      cases hb
      exact hm
    · exact (h.part j a b (by omega) ha hb).more hmore
  · unfold addS
    split
    · rw [psz_append, psz_one]
      simp only
      omega
    · omega

theorem SIn.unlike {t u : A} {M S : List (A × A)} {p : A × A} {i top : Nat} {x y : A} (h : SIn t u M S p i top) (hx : p.1.kids[i]? = some x) (hy : p.2.kids[i]? = some y) (hl : x.like y = false) : t.t ≠ u.t := fun he => by
  have := like_of_eq (kid_eq (h.eqv he p h.here) hx hy)
  rw [hl] at this
  cases this

theorem SIn.out {t u : A} {M S : List (A × A)} {p : A × A} {i top : Nat} (h : SIn t u M S p i top) (hi : p.1.kids.length = i) : SInv t u M S ∧ psz S < top := by
  have hd : p.1.kids.drop i = [] := List.drop_eq_nil_of_le (by omega)
  have hc := h.cnt
  have hl := h.low
  rw [hd] at hc hl
  simp [A.ts, T.sizes] at hc hl
  have hpos : 0 < i := by
    have := (h.sub p h.here).2.2.2
    have := List.length_pos_iff.2 this
    omega
  refine ⟨⟨h.sub, h.wait, h.eqv, fun q hq => ?_, h.root, hc⟩, by omega⟩
  rcases h.done q hq with h1 | rfl | h1
  · exact .inl h1
  · exact .inr fun j x y hx hy => h.part j x y (by have := (List.getElem?_eq_some_iff.1 hx).1; omega) hx hy
  · exact .inr h1

/-- Where nothing waits any more the trees are the same. -/
theorem SInv.same {t u : A} {M : List (A × A)} (h : SInv t u M []) (hD : Det t.subs) (hE : Det u.subs) : t.t = u.t := by
  have key : ∀ x : A, ∀ y : A, x ∈ t.subs → y ∈ u.subs → Met M x y → x.t = y.t := by
    refine A.ind fun k n b o c l ih y hx hy hm => ?_
    obtain ⟨k', n', b', o', c', l'⟩ := y
    have hlk := hm.1
    simp only [A.like, Bool.and_eq_true] at hlk
    obtain ⟨⟨hl1, hl2⟩, hl3⟩ := hlk
    obtain rfl : k = k' := of_decide_eq_true hl1
    obtain rfl : n = n' := of_decide_eq_true hl2
    have hlen : l.length = l'.length := of_decide_eq_true hl3
    have hll : l.map A.t = l'.map A.t := by
      by_cases hl : l = []
      · subst hl
        have : l' = [] := List.length_eq_zero_iff.1 hlen.symm
        rw [this]
      · obtain ⟨q, hq, hk⟩ := List.mem_map.1 (hm.2 hl)
        obtain ⟨s1, s2, s3, s4⟩ := h.sub q hq
        have hlq := s3
        simp only [A.like, Bool.and_eq_true, decide_eq_true_eq] at hlq
        simp only [key2, Prod.mk.injEq] at hk
        obtain ⟨e1, e2, e3, e4, e5⟩ := hk
        have hl' : l' ≠ [] := fun e => hl (List.length_eq_zero_iff.1 (by rw [hlen, e]; rfl))
        have k1 : q.1.kids = l := hD q.1 s1 _ hx s4 hl (by rw [← ent_key, ← ent_key]; simp only [E.key, e1, e2, ent_l, e5])
        have k2 : q.2.kids = l' := hE q.2 s2 _ hy (fun e => s4 (List.length_eq_zero_iff.1 (by rw [hlq.2, e]; rfl))) hl' (by
          rw [← ent_key, ← ent_key]
          simp only [E.key, e3, e4, ent_l]
          have e6 : q.1.kids.length = l.length := e5
          rw [← hlq.2, e6, hlen]
          rfl)
        rcases h.done q hq with h1 | h1
        · exact absurd h1 List.not_mem_nil
        · apply List.ext_getElem?
          intro i
          by_cases hi : i < l.length
          · have hi' : i < l'.length := by omega
            have g1 : l[i]? = some l[i] := List.getElem?_eq_getElem hi
            have g2 : l'[i]? = some l'[i] := List.getElem?_eq_getElem hi'
            have := ih _ (List.getElem_mem hi) l'[i] (subs_kid hx (List.getElem_mem hi)) (subs_kid hy (List.getElem_mem hi')) (h1 i _ _ (by rw [k1]; exact g1) (by rw [k2]; exact g2))
            rw [List.getElem?_map, List.getElem?_map, g1, g2]
            simp [this]
          · rw [List.getElem?_eq_none (by simp; omega), List.getElem?_eq_none (by simp; omega)]
    simp only [A.t, A.ts_map, hll]
  exact key t u (subs_self t) (subs_self u) h.root

/-- What the program keeps: the set of pairs, the pairs that wait. -/
structure SmW (w W : World) (mb m wb : Nat) (v : Value) (M S : List (A × A)) : Prop where
  nu : Nu w W
  mc : W.heap[mb]? = some (.cells #[.map (some m)] 70 (0, 0))
  wc : W.heap[wb]? = some (.cells #[v] 71 (0, 0))
  set : SetIs W m kv5 (M.map key2)
  row : W.ownsRow w.heap.size 76 2 v S.length (S.flatMap val2)
  hmb : w.heap.size ≤ mb
  hm : w.heap.size ≤ m
  hwb : w.heap.size ≤ wb

theorem SmW.next {w W W' : World} {mb m wb : Nat} {v : Value} {M S : List (A × A)} (h : SmW w W mb m wb v M S) (hn : Nu W W') : SmW w W' mb m wb v M S :=
  ⟨mv0 h.nu hn, hn.heap h.mc id, hn.heap h.wc id, h.set.mv hn id, row_nu0 h.row hn, h.hmb, h.hm, h.hwb⟩

/-- Its blocks are apart. -/
theorem SmW.apart {w W : World} {mb m wb : Nat} {v : Value} {M S : List (A × A)} (h : SmW w W mb m wb v M S) : mb ≠ m ∧ wb ≠ m ∧ ∀ x, v.ownBlock = some x → x ≠ m := by
  obtain ⟨es, c, h1, _⟩ := h.set
  refine ⟨fun e => ?_, fun e => ?_, fun x hx e => ?_⟩
  · rw [← e, h.mc] at h1
    cases h1
  · rw [← e, h.wc] at h1
    cases h1
  · rcases h.row.2 with ⟨rfl, _⟩ | ⟨g', cap, cur, rfl, hb, hgg, _⟩
    · cases hx
    · obtain rfl : g' = x := by injection hx
      rw [← e, hgg] at h1
      cases h1
theorem SmW.apart2 {w W : World} {mb m wb : Nat} {v : Value} {M S : List (A × A)} (h : SmW w W mb m wb v M S) : mb ≠ wb ∧ ∀ x, v.ownBlock = some x → x ≠ mb ∧ x ≠ wb := by
  refine ⟨fun e => ?_, fun x hx => ⟨fun e => ?_, fun e => ?_⟩⟩
  · have := h.mc
    rw [e, h.wc] at this
    cases this
  all_goals
    rcases h.row.2 with ⟨rfl, _⟩ | ⟨g', cap, cur, rfl, hb, hgg, _⟩
    · cases hx
    · obtain rfl : g' = x := by injection hx
      first
        | (rw [e, h.mc] at hgg; cases hgg)
        | (rw [e, h.wc] at hgg; cases hgg)

/-- One more pair. -/
theorem SmW.added {w W2 W3 w5 : World} {mb m wb : Nat} {v : Value} {M S : List (A × A)} {p : A × A} {g5 cap5 : Nat} (h : SmW w W2 mb m wb v M S) (hm3 : Mv (· = m) W2 W3) (hst : SetIs W3 m kv5 (M.map key2 ++ [key2 p])) (hown : w5.ownsRow w.heap.size 76 2 (.slice (some ⟨g5, 0, none⟩) (S.length + 1) cap5) (S.length + 1) (S.flatMap val2 ++ val2 p))
    (m5 : Mv (fun x => v.ownBlock = some x) W3 w5) (hat : v.ownBlock = some g5 ∨ g5 = W3.heap.size + 1) : SmW w (w5.setCell ⟨wb, 0, none⟩ (.slice (some ⟨g5, 0, none⟩) (S.length + 1) cap5)) mb m wb (.slice (some ⟨g5, 0, none⟩) (S.length + 1) cap5) (M ++ [p]) (S ++ [p]) := by
  obtain ⟨a1, a2, a3⟩ := h.apart
  obtain ⟨a4, a5⟩ := h.apart2
  have hlow : ∀ x, v.ownBlock = some x → w.heap.size ≤ x := fun x hx => by
    rcases h.row.2 with ⟨rfl, _⟩ | ⟨g', cap, cur, rfl, hb, hgg, _⟩
    · cases hx
    · obtain rfl : g' = x := by injection hx
      exact hb
  have wc3 := hm3.heap h.wc a2
  have wc5 := m5.heap wc3 (fun e => (a5 _ e).2 rfl)
  have mS : Mv (· = wb) w5 (w5.setCell ⟨wb, 0, none⟩ (.slice (some ⟨g5, 0, none⟩) (S.length + 1) cap5)) := Mv.setCell w5 ⟨wb, 0, none⟩ _
  have hg5 : g5 ≠ wb := fun e => by
    rcases hat with h1 | h1
    · exact (a5 _ h1).2 e
    · have := lt_of_block wc3
      omega
  refine ⟨((h.nu.trans hm3 (fun x hx => .inr (by rw [hx]; exact h.hm))).trans m5 (fun x hx => .inr (hlow x hx))).trans mS (fun x hx => .inr (by rw [hx]; exact h.hwb)), ?_, ?_, ?_, ?_, h.hmb, h.hm, h.hwb⟩
  · exact mS.heap (m5.heap (hm3.heap h.mc a1) (fun e => (a5 _ e).1 rfl)) a4
  · rw [setCell_blk wc5]; rfl
  · rw [List.map_append]
    exact (hst.mv m5 (fun e => a3 _ e rfl)).mv mS (fun e => a2 e.symm)
  · rw [List.length_append, List.flatMap_append]
    refine row_mv (xs := S.flatMap val2 ++ [p].flatMap val2) (by simpa using hown) mS (fun x hx e => ?_)
    have e1 : g5 = x := by injection hx
    exact hg5 (e1.trans e)

def Good5 (w : World) (x : K5) : Prop := Cln w x.1 ∧ Cln w x.2.2.1

theorem eq_two (w : World) (a b c d : Addr) (m n : Int) (ha : Cln w a.block) (hb : Cln w b.block) (hc : Cln w c.block) (hd : Cln w d.block) :
    (Op.equal 73 (.agg #[.pointer (some a), .pointer (some c), .int .i64 m]) (.agg #[.pointer (some b), .pointer (some d), .int .i64 n])).run Tryd.prog w = .ok (decide (a = b) && (decide (c = d) && decide (m = n))) w := by
  have hS : Tryd.prog.underlying 73 = some (.struct (Tryd.prog.fieldsOf 73)) := by kernel_rfl
  have hp : Tryd.prog.stoodInHeld 73 = false := by kernel_rfl
  obtain ⟨j, hj, hz⟩ : ∃ j, Tryd.prog.info? 24 = some j ∧ j.size ≠ 0 := by
    have : (Tryd.prog.info? 24).map (·.size) = some 3 := by kernel_rfl
    cases h : Tryd.prog.info? 24 with
    | none => rw [h] at this; simp at this
    | some j => rw [h] at this; simp at this; exact ⟨j, rfl, by omega⟩
  have hq := run_equalIn_ptr (P := Tryd.prog) 9998 Tryd.underlying49 hj hz ha hb
  have hq2 := run_equalIn_ptr (P := Tryd.prog) 9998 Tryd.underlying49 hj hz hc hd
  unfold Op.equal Op.maxDepth
  rw [show (10000 : Nat) = 9999 + 1 from rfl, run_equalIn_agg w 9999 73 _ _ hS hp]
  simp only [Program.fieldsOf, Tryd.underlying73]
  go_simp
  by_cases h1 : a = b <;> by_cases h2 : c = d <;> by_cases h3 : m = n <;> simp [h1, h2, h3]

theorem keysTwo : Keys Tryd.prog 70 73 74 kv5 Good5 where
  und := Tryd.underlying70
  st := ⟨_, Tryd.underlying73⟩
  zero := fun w => by kernel_rfl
  check := fun w em x => by unfold kv5; kernel_rfl
  eq := fun w x y hx hy => by
    obtain ⟨x1, x2, x3, x4, x5⟩ := x
    obtain ⟨y1, y2, y3, y4, y5⟩ := y
    unfold kv5
    rw [eq_two w ⟨x1, x2, none⟩ ⟨y1, y2, none⟩ ⟨x3, x4, none⟩ ⟨y3, y4, none⟩ x5 y5 hx.1 hy.1 hx.2 hy.2]
    congr 1
    rw [Bool.eq_iff_iff]
    simp
    omega

end Go.Proofs.YtidihaecgmbhpabDoor
