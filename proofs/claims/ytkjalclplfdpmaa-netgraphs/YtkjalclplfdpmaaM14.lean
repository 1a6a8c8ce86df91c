/-
  NAgain0, NAgain1.
-/
import Derived.Test.YtkjalclplfdpmaaM13
/-
  A graph that was explored, explored again, is itself: plain data, of any system.
-/
namespace Go.Proofs.Ytkjalclplfdpmaa

/-- The first states of a graph. -/
def rangeS (c : Nat) : List ByteArray := (List.range c).map nst
theorem rangeS_len (c : Nat) : (rangeS c).length = c := by simp [rangeS]
theorem rangeS_succ (c : Nat) : rangeS (c + 1) = rangeS c ++ [nst c] := by simp [rangeS, List.range_succ]
theorem rangeS_get {c i : Nat} (h : i < c) : (rangeS c)[i]? = some (nst i) := by simp [rangeS, h]
theorem rangeS_none {c i : Nat} (h : c ≤ i) : (rangeS c)[i]? = none := by simp [rangeS, h]
theorem rangeS_not {c : Nat} (h : c < 18446744073709551616) : nst c ∉ rangeS c := by
  intro hm
  simp only [rangeS, List.mem_map, List.mem_range] at hm
  obtain ⟨k, hk, he⟩ := hm
  have := nst_inj (by omega) h he
  omega
theorem plc_rangeS {c t : Nat} (hc : c ≤ 18446744073709551616) (ht : t < c) : plc (rangeS c) (nst t) = some t := by
  induction c with
  | zero => omega
  | succ c ih =>
    rw [rangeS_succ]
    by_cases h : t = c
    · subst h
      have := plc_new (rangeS_not (c := t) (by omega))
      rwa [rangeS_len] at this
    · exact plc_append (ih (by omega) (by omega))
theorem plc_rangeS_none {c : Nat} (hc : c < 18446744073709551616) : plc (rangeS c) (nst c) = none := plc_none.2 (rangeS_not hc)

/-- A move bs an arc has it. -/
structure Like (m : Mov) (a : Arc) : Prop where
  proc : m.proc = a.proc
  bad : m.bad = a.bad
  reads : m.reads = a.reads
  writes : m.writes = a.writes
  turns : m.turns = a.turns
  to : a.bad = 0 → m.to = nst a.to.toNat

def Likes : List Mov → List Arc → Prop
  | [], [] => True
  | m :: r, a :: s => Like m a ∧ Likes r s
  | _, _ => False

theorem like_movOf (k : Nat) (a : Arc) : Like (movOf k a) a := ⟨rfl, rfl, rfl, rfl, rfl, fun h => by simp [movOf, h]⟩
theorem likes_from : ∀ (bs : List Arc) (s : Nat), Likes ((List.range' s bs.length).zipWith movOf bs) bs
  | [], _ => by simp [Likes]
  | a :: r, s => by
    rw [List.length_cons, List.range'_succ, List.zipWith_cons_cons]
    exact ⟨like_movOf s a, likes_from r (s + 1)⟩
theorem likes_movsOf (bs : List Arc) : Likes (movsOf bs) bs := by
  unfold movsOf
  rw [List.range_eq_range']
  exact likes_from bs 0

/-- What is asked of an arc of a state that is explored. -/
structure Fits (m : Mov) (a : Arc) (c : Nat) : Prop where
  proc : a.proc = m.proc
  bad : a.bad = m.bad
  reads : a.reads = m.reads
  writes : a.writes = m.writes
  turns : a.turns = m.turns
  lo : 0 ≤ a.to
  hi : a.bad = 0 → a.to < c
  no : a.bad ≠ 0 → a.to = 0

theorem one_sim {most L : Nat} {u u' : Und} {m : Mov} (h : oneMove most u m = some u') (hL : u'.states.length ≤ L) (h64 : L < 18446744073709551616) :
    ∃ a, u'.arcs = u.arcs ++ [a] ∧ Fits m a u'.states.length ∧ ∀ m', Like m' a → ∀ A, oneMove L ⟨rangeS u.states.length, u.cnt, A⟩ m' = some ⟨rangeS u'.states.length, u'.cnt, A ++ [a]⟩ := by
  have harc : ∀ (k : Nat) m', Like m' (arcOf m k) → arcOf m' k = arcOf m k := fun k m' hl => by
    have h1 := hl.proc; have h2 := hl.bad; have h3 := hl.reads; have h4 := hl.writes; have h5 := hl.turns
    simp only [arcOf] at h1 h2 h3 h4 h5 ⊢
    rw [h1, h2, h3, h4, h5]
  unfold oneMove at h
  by_cases hb : m.bad = 0
  · rw [if_pos hb] at h
    cases hp : plc u.states m.to with
    | some k =>
      rw [hp] at h
      simp only at h
      by_cases hc : 262144 < u.cnt + 1
      · rw [if_pos hc] at h; cases h
      · rw [if_neg hc] at h
        cases h
        have hk := (plc_some hp).2
        refine ⟨arcOf m k, rfl, ⟨rfl, rfl, rfl, rfl, rfl, Int.natCast_nonneg _, fun _ => by simp only [arcOf]; omega, fun hn => absurd hb hn⟩, fun m' hl A => ?_⟩
        have hb' : m'.bad = 0 := by rw [hl.bad]; exact hb
        have hto : m'.to = nst k := by rw [hl.to hb]; rfl
        simp only at hL
        unfold oneMove
        simp only [hb', if_true, hto, plc_rangeS (show u.states.length ≤ 18446744073709551616 by omega) hk, if_neg hc, harc k m' hl]
    | none =>
      rw [hp] at h
      simp only at h
      by_cases hm : u.states.length = most
      · rw [if_pos hm] at h; cases h
      · rw [if_neg hm] at h
        by_cases hc : 262144 < u.cnt + 1
        · rw [if_pos hc] at h; cases h
        · rw [if_neg hc] at h
          cases h
          simp only [List.length_append, List.length_cons, List.length_nil, Nat.zero_add] at hL ⊢
          refine ⟨arcOf m u.states.length, rfl, ⟨rfl, rfl, rfl, rfl, rfl, Int.natCast_nonneg _, fun _ => by simp only [arcOf]; omega, fun hn => absurd hb hn⟩, fun m' hl A => ?_⟩
          have hb' : m'.bad = 0 := by rw [hl.bad]; exact hb
          have hto : m'.to = nst u.states.length := by rw [hl.to hb]; rfl
          have hne : ¬ u.states.length = L := by omega
          unfold oneMove
          simp only [hb', if_true, hto, plc_rangeS_none (show u.states.length < 18446744073709551616 by omega), rangeS_len, if_neg hne, if_neg hc, harc _ m' hl]
          rw [rangeS_succ]
  · rw [if_neg hb] at h
    by_cases hc : 262144 < u.cnt + 1
    · rw [if_pos hc] at h; cases h
    · rw [if_neg hc] at h
      cases h
      refine ⟨arcOf m 0, rfl, ⟨rfl, rfl, rfl, rfl, rfl, Int.natCast_nonneg _, fun hn => absurd hn hb, fun _ => rfl⟩, fun m' hl A => ?_⟩
      have hb' : ¬ m'.bad = 0 := by rw [hl.bad]; exact hb
      have ha := harc 0 m' hl
      unfold oneMove
      simp only [if_neg hb', if_neg hc]
      rw [ha]

/-- Arcs fit their moves. -/
def FitsAll : List Mov → List Arc → Nat → Prop
  | [], [], _ => True
  | m :: r, a :: s, c => Fits m a c ∧ FitsAll r s c
  | _, _, _ => False
theorem Fits.up {m : Mov} {a : Arc} {c d : Nat} (h : Fits m a c) (hd : c ≤ d) : Fits m a d := ⟨h.proc, h.bad, h.reads, h.writes, h.turns, h.lo, fun hb => by have := h.hi hb; omega, h.no⟩
theorem FitsAll.up : ∀ {ms : List Mov} {bs : List Arc} {c d : Nat}, FitsAll ms bs c → c ≤ d → FitsAll ms bs d
  | [], [], _, _, _, _ => trivial
  | _ :: _, _ :: _, _, _, h, hd => ⟨h.1.up hd, FitsAll.up h.2 hd⟩

theorem all_sim {most L : Nat} (h64 : L < 18446744073709551616) : ∀ {l : List Mov} {u u' : Und}, allMoves most u l = some u' → u.states.length ≤ most → u'.states.length ≤ L →
    ∃ bs, u'.arcs = u.arcs ++ bs ∧ FitsAll l bs u'.states.length ∧ ∀ ms', Likes ms' bs → ∀ A, allMoves L ⟨rangeS u.states.length, u.cnt, A⟩ ms' = some ⟨rangeS u'.states.length, u'.cnt, A ++ bs⟩
  | [], u, u', h, _, hL => by
    cases h
    refine ⟨[], by simp, trivial, fun ms' hl A => ?_⟩
    cases ms' with
    | nil => simp [allMoves]
    | cons _ _ => exact hl.elim
  | m :: r, u, u', h, hu, hL => by
    obtain ⟨v, h1, h2⟩ := Option.bind_eq_some_iff.1 h
    obtain ⟨a1, a2, _⟩ := oneMove_len h1 hu
    obtain ⟨_, b2, _⟩ := allMoves_len h2 a1
    have hvL : v.states.length ≤ L := Nat.le_trans b2.length_le hL
    obtain ⟨a, e1, f1, s1⟩ := one_sim h1 hvL h64
    obtain ⟨bs, e2, f2, s2⟩ := all_sim h64 h2 a1 hL
    refine ⟨a :: bs, by rw [e2, e1]; simp, ⟨f1.up b2.length_le, f2⟩, fun ms' hl A => ?_⟩
    cases ms' with
    | nil => exact hl.elim
    | cons m' r' =>
      rw [allMoves, s1 m' hl.1 A, Option.bind_some, s2 r' hl.2 (A ++ [a])]
      simp

theorem state_sim {M : Sem} {most L : Nat} (h64 : L < 18446744073709551616) {x y : Expl} {st : ByteArray} (h : oneState M most x st = some y) (hx : x.states.length ≤ most) (hL : y.states.length ≤ L) :
    ∃ nd, y.nodes = x.nodes ++ [nd] ∧ FitsAll (M.next st) nd.arcs y.states.length ∧ ∀ M' : Sem, ∀ st', M'.next st' = movsOf nd.arcs → M'.look st' = ⟨nd.props, nd.en, nd.pr, nd.ac⟩ →
      oneState M' L ⟨x.nodes, rangeS x.states.length, x.cnt⟩ st' = some ⟨y.nodes, rangeS y.states.length, y.cnt⟩ := by
  obtain ⟨u, hu, rfl⟩ := Option.map_eq_some_iff.1 h
  obtain ⟨bs, e, f, s⟩ := all_sim h64 hu hx hL
  simp only [List.nil_append] at e
  refine ⟨nodeOf (M.look st) u.arcs, rfl, by rw [e] at *; exact f, fun M' st' hn hlk => ?_⟩
  have := s (movsOf bs) (likes_movsOf bs) []
  unfold oneState
  simp only [nodeOf, e] at hn hlk ⊢
  rw [hn, this, hlk]
  simp

theorem explore_len {M : Sem} {most : Nat} : ∀ {f : Nat} {x z : Expl}, explore M most f x = some z → x.states.length ≤ most → z.states.length ≤ most ∧ x.states <+: z.states ∧ x.nodes <+: z.nodes
  | 0, x, z, h, hx => by cases h; exact ⟨hx, List.prefix_refl _, List.prefix_refl _⟩
  | f + 1, x, z, h, hx => by
    cases hs : x.states[x.nodes.length]? with
    | none => rw [explore_end hs] at h; cases h; exact ⟨hx, List.prefix_refl _, List.prefix_refl _⟩
    | some st =>
      rw [explore_step hs] at h
      obtain ⟨y, h1, h2⟩ := Option.bind_eq_some_iff.1 h
      obtain ⟨u, hu, rfl⟩ := Option.map_eq_some_iff.1 h1
      obtain ⟨a, b, _⟩ := allMoves_len hu hx
      obtain ⟨c, d, e⟩ := explore_len h2 a
      exact ⟨c, b.trans d, (List.prefix_append _ _).trans e⟩

/-- All that is met is gone over. -/
theorem explore_whole {M : Sem} {most : Nat} : ∀ {f : Nat} {x z : Expl}, explore M most f x = some z → x.states.length ≤ most → x.nodes.length ≤ x.states.length → most ≤ x.nodes.length + f → z.nodes.length = z.states.length
  | 0, x, z, h, hx, hn, hf => by cases h; omega
  | f + 1, x, z, h, hx, hn, hf => by
    cases hs : x.states[x.nodes.length]? with
    | none =>
      rw [explore_end hs] at h
      cases h
      have := List.getElem?_eq_none_iff.1 hs
      omega
    | some st =>
      rw [explore_step hs] at h
      obtain ⟨y, h1, h2⟩ := Option.bind_eq_some_iff.1 h
      obtain ⟨a, b, c⟩ := oneState_len h1 hx
      have hlt := (List.getElem?_eq_some_iff.1 hs).1
      exact explore_whole h2 a (by have := b.length_le; omega) (by omega)

theorem explore_sim {M : Sem} {most : Nat} {z : Expl} (h64 : z.states.length < 18446744073709551616) (hz : z.nodes.length = z.states.length) : ∀ {f f' : Nat} {x : Expl}, explore M most f x = some z → x.states.length ≤ most → x.nodes.length ≤ x.states.length → z.states.length ≤ x.nodes.length + f' →
    explore (graphSem z.nodes) z.states.length f' ⟨x.nodes, rangeS x.states.length, x.cnt⟩ = some ⟨z.nodes, rangeS z.states.length, z.cnt⟩
  | 0, f', x, h, hx, hn, hf => by
    cases h
    exact explore_end (show (rangeS z.states.length)[z.nodes.length]? = none from rangeS_none (by omega))
  | f + 1, f', x, h, hx, hn, hf => by
    cases hs : x.states[x.nodes.length]? with
    | none =>
      rw [explore_end hs] at h
      cases h
      exact explore_end (show (rangeS z.states.length)[z.nodes.length]? = none from rangeS_none (by omega))
    | some st =>
      rw [explore_step hs] at h
      obtain ⟨y, h1, h2⟩ := Option.bind_eq_some_iff.1 h
      obtain ⟨a, b, c⟩ := oneState_len h1 hx
      have hlt := (List.getElem?_eq_some_iff.1 hs).1
      obtain ⟨_, d, e⟩ := explore_len h2 a
      have hbl := b.length_le
      have hdl := d.length_le
      obtain ⟨f'', rfl⟩ : ∃ k, f' = k + 1 := ⟨f' - 1, by omega⟩
      obtain ⟨nd, hy, _, hsim⟩ := state_sim (L := z.states.length) h64 h1 hx hdl
      have hnd : z.nodes[x.nodes.length]? = some nd := by
        obtain ⟨t, ht⟩ := e
        rw [← ht, hy]
        simp
      rw [explore_step (st := nst x.nodes.length) (by show (rangeS _)[_]? = _; exact rangeS_get hlt),
        hsim (graphSem z.nodes) _ (graph_next hnd (by omega)) (graph_look hnd (by omega)), Option.bind_some]
      exact explore_sim h64 hz h2 a (by omega) (by omega)

/-- THE LAW: what was explored, explored again with room enough, is itself. -/
theorem explored_again {M : Sem} {most : Nat} {gs : List Node} {ss : List ByteArray} (h : explored M most = some (gs, ss)) (h1 : 1 ≤ most) (h64 : most < 18446744073709551616) : gs.length = ss.length ∧ ss.length ≤ most ∧ 1 ≤ ss.length ∧ explored (graphSem gs) ss.length = some (gs, rangeS ss.length) := by
  obtain ⟨z, hz, he⟩ := Option.map_eq_some_iff.1 h
  obtain ⟨rfl, rfl⟩ : z.nodes = gs ∧ z.states = ss := by simpa using he
  have hw := explore_whole hz (by simpa using h1) (by simp) (by simp)
  obtain ⟨hl, hp, _⟩ := explore_len hz (by simpa using h1)
  have h1' : 1 ≤ z.states.length := by simpa using hp.length_le
  refine ⟨hw, hl, h1', ?_⟩
  have := explore_sim (f' := z.states.length) (by omega) hw hz (by simpa using h1) (by simp) (by simp)
  unfold explored
  have hr : rangeS ([M.begin] : List ByteArray).length = [(graphSem z.nodes).begin] := rfl
  simp only [hr] at this
  rw [this]
  rfl

end Go.Proofs.Ytkjalclplfdpmaa
/-
  A graph that may be is explored, and what comes of it may be: plain data.
-/
namespace Go.Proofs.Ytkjalclplfdpmaa

theorem sum_nodup (f : Nat → Nat) : ∀ (n : Nat) (q : List Nat), q.Nodup → (∀ k ∈ q, k < n) → (q.map f).sum ≤ ((List.range n).map f).sum
  | 0, q, _, h => by
    cases q with
    | nil => simp
    | cons a r => exact absurd (h a (by simp)) (Nat.not_lt_zero _)
  | n + 1, q, hn, h => by
    rw [List.range_succ, List.map_append, List.sum_append]
    by_cases hm : n ∈ q
    · have hp := (List.perm_cons_erase hm).map f
      have hs := hp.sum_nat
      rw [hs, List.map_cons, List.sum_cons]
      have := sum_nodup f n (q.erase n) (hn.erase n) (fun k hk => by
        have h1 := h k (List.mem_of_mem_erase hk)
        have h2 : k ≠ n := fun e => by rw [e] at hk; exact (List.Nodup.mem_erase_iff hn).1 hk |>.1 rfl
        omega)
      simp only [List.map_cons, List.map_nil, List.sum_cons, List.sum_nil]
      omega
    · have := sum_nodup f n q hn (fun k hk => by
        have h1 := h k hk
        have h2 : k ≠ n := fun e => hm (e ▸ hk)
        omega)
      omega

theorem sum_ones (q : List Nat) : (q.map fun _ => 1).sum = q.length := by
  induction q with
  | nil => rfl
  | cons a r ih => rw [List.map_cons, List.sum_cons, ih, List.length_cons]; omega
theorem nodup_len {n : Nat} {q : List Nat} (hn : q.Nodup) (h : ∀ k ∈ q, k < n) : q.length ≤ n := by
  have := sum_nodup (fun _ => 1) n q hn h
  rw [sum_ones, sum_ones, List.length_range] at this
  exact this

/-- How many arcs a node has. -/
def arcsAt (ns : List Node) (k : Nat) : Nat := match ns[k]? with | some x => x.arcs.length | none => 0
theorem arcsIn_append (a b : List Node) : arcsIn (a ++ b) = arcsIn a + arcsIn b := by
  induction a with
  | nil => simp [arcsIn]
  | cons x r ih => rw [List.cons_append, arcsIn, arcsIn, ih]; omega
theorem arcsIn_sum (ns : List Node) : arcsIn ns = ((List.range ns.length).map (arcsAt ns)).sum := by
  induction ns with
  | nil => rfl
  | cons x r ih =>
    rw [arcsIn, ih, List.length_cons, List.range_succ_eq_map, List.map_cons, List.sum_cons, List.map_map]
    rfl
theorem arcs_le {ns : List Node} {q : List Nat} (hn : q.Nodup) (h : ∀ k ∈ q, k < ns.length) : (q.map (arcsAt ns)).sum ≤ arcsIn ns := by
  rw [arcsIn_sum]
  exact sum_nodup _ _ q hn h

/-- Nodes, in the order in which they are met. -/
structure Met (ns : List Node) (states : List ByteArray) (ks : List Nat) : Prop where
  st : states = ks.map nst
  nd : ks.Nodup
  lt : ∀ k ∈ ks, k < ns.length

theorem one_yes {ns : List Node} (hs : ns.length ≤ 20000) {u : Und} {ks : List Nat} (h : Met ns u.states ks) {k : Nat} {a : Arc} (ha : arcB ns.length a = true) (hc : u.cnt + 1 ≤ 262144) :
    ∃ u' ks', oneMove 20000 u (movOf k a) = some u' ∧ Met ns u'.states ks' ∧ ks <+: ks' := by
  have ha' := ha
  unfold arcB at ha'
  simp only [Bool.and_eq_true, decide_eq_true_eq] at ha'
  have hcn : ¬ 262144 < u.cnt + 1 := by omega
  by_cases hb : a.bad = 0
  · have hto : (movOf k a).to = nst a.to.toNat := by simp [movOf, hb]
    have hbm : (movOf k a).bad = 0 := hb
    have ht : a.to.toNat < ns.length := by omega
    cases hp : plc u.states (nst a.to.toNat) with
    | some j => exact ⟨⟨u.states, u.cnt + 1, u.arcs ++ [arcOf (movOf k a) j]⟩, ks, by unfold oneMove; simp only [hbm, if_true, hto, hp, if_neg hcn], h, List.prefix_refl _⟩
    | none =>
      have hni : a.to.toNat ∉ ks := fun hm => plc_none.1 hp (by rw [h.st]; exact List.mem_map_of_mem hm)
      have hnd : (a.to.toNat :: ks).Nodup := List.nodup_cons.2 ⟨hni, h.nd⟩
      have hlen := nodup_len hnd (n := ns.length) (fun j hj => by
        rcases List.mem_cons.1 hj with rfl | hj
        · exact ht
        · exact h.lt j hj)
      have hne : ¬ u.states.length = 20000 := by
        rw [h.st, List.length_map]
        simp only [List.length_cons] at hlen
        omega
      refine ⟨⟨u.states ++ [nst a.to.toNat], u.cnt + 1, u.arcs ++ [arcOf (movOf k a) u.states.length]⟩, ks ++ [a.to.toNat], by unfold oneMove; simp only [hbm, if_true, hto, hp, if_neg hne, if_neg hcn], ⟨by simp [h.st], ?_, ?_⟩, List.prefix_append _ _⟩
      · rw [List.nodup_append]
        exact ⟨h.nd, List.pairwise_singleton _ _, fun x hx y hy e => hni (by rw [List.mem_singleton.1 hy] at e; exact e ▸ hx)⟩
      · intro j hj
        rcases List.mem_append.1 hj with hj | hj
        · exact h.lt j hj
        · rw [List.mem_singleton.1 hj]; exact ht
  · have hbm : ¬ (movOf k a).bad = 0 := hb
    exact ⟨⟨u.states, u.cnt + 1, u.arcs ++ [arcOf (movOf k a) 0]⟩, ks, by unfold oneMove; simp only [if_neg hbm, if_neg hcn], h, List.prefix_refl _⟩

theorem all_yes {ns : List Node} (hs : ns.length ≤ 20000) : ∀ (l : List Mov) {u : Und} {ks : List Nat}, Met ns u.states ks → (∀ m ∈ l, ∃ k a, arcB ns.length a = true ∧ m = movOf k a) → u.cnt + l.length ≤ 262144 →
    ∃ u' ks', allMoves 20000 u l = some u' ∧ Met ns u'.states ks' ∧ ks <+: ks'
  | [], u, ks, h, _, _ => ⟨u, ks, rfl, h, List.prefix_refl _⟩
  | m :: r, u, ks, h, hl, hc => by
    obtain ⟨k, a, ha, rfl⟩ := hl m (by simp)
    simp only [List.length_cons] at hc
    obtain ⟨v, kv, h1, h2, h3⟩ := one_yes hs h ha (k := k) (by omega)
    have hu : u.states.length ≤ 20000 := by
      rw [h.st, List.length_map]
      have := nodup_len h.nd h.lt
      omega
    obtain ⟨_, _, hcv, _⟩ := oneMove_len h1 hu
    obtain ⟨z, kz, h4, h5, h6⟩ := all_yes hs r h2 (fun m' hm => hl m' (by simp [hm])) (by omega)
    exact ⟨z, kz, by rw [allMoves, h1, Option.bind_some, h4], h5, h3.trans h6⟩

/-- What may be known of a graph that is being explored. -/
structure GI (ns : List Node) (x : Expl) (ks : List Nat) : Prop where
  met : Met ns x.states ks
  le : x.nodes.length ≤ x.states.length
  cnt : x.cnt = ((ks.take x.nodes.length).map (arcsAt ns)).sum
  cnt' : x.cnt = arcsIn x.nodes
  arcs : ∀ nd ∈ x.nodes, ∀ a ∈ nd.arcs, (∃ b, arcB ns.length b = true ∧ a.proc = b.proc ∧ a.bad = b.bad ∧ a.reads = b.reads ∧ a.writes = b.writes) ∧ 0 ≤ a.to ∧ (a.bad = 0 → a.to < x.states.length) ∧ (a.bad ≠ 0 → a.to = 0)

theorem fitsAll_len : ∀ {ms : List Mov} {bs : List Arc} {c : Nat}, FitsAll ms bs c → bs.length = ms.length
  | [], [], _, _ => rfl
  | _ :: _, _ :: _, _, h => by simp [fitsAll_len h.2]
theorem fitsAll_mem : ∀ {ms : List Mov} {bs : List Arc} {c : Nat}, FitsAll ms bs c → ∀ a ∈ bs, ∃ m ∈ ms, Fits m a c
  | [], [], _, _, a, ha => by cases ha
  | m :: _, b :: _, _, h, a, ha => by
    rcases List.mem_cons.1 ha with rfl | ha
    · exact ⟨m, by simp, h.1⟩
    · obtain ⟨m', h1, h2⟩ := fitsAll_mem h.2 a ha
      exact ⟨m', by simp [h1], h2⟩

theorem may_parts {ns : List Node} (h : mayN ns = true) : 1 ≤ ns.length ∧ ns.length ≤ 20000 ∧ arcsIn ns ≤ 262144 ∧ ∀ x ∈ ns, ∀ a ∈ x.arcs, arcB ns.length a = true := by
  unfold mayN at h
  simp only [Bool.and_eq_true, decide_eq_true_eq, List.all_eq_true] at h
  exact ⟨h.1.1.1, h.1.1.2, h.1.2, h.2⟩

theorem mem_movsOf' {l : List Arc} {m : Mov} (h : m ∈ movsOf l) : ∃ k a, a ∈ l ∧ m = movOf k a := by
  obtain ⟨i, hi, rfl⟩ := List.mem_iff_getElem.1 h
  have hl : i < l.length := by simpa [movsOf] using hi
  exact ⟨i, l[i], List.getElem_mem hl, by simp [movsOf]⟩

theorem GI.step {ns : List Node} (hm : mayN ns = true) {x : Expl} {ks : List Nat} (h : GI ns x ks) {st : ByteArray} (hst : x.states[x.nodes.length]? = some st) : ∃ y ky, oneState (graphSem ns) 20000 x st = some y ∧ GI ns y ky := by
  obtain ⟨h1, h2, h3, h4⟩ := may_parts hm
  have hlt : x.nodes.length < ks.length := by
    have := (List.getElem?_eq_some_iff.1 hst).1
    rw [h.met.st, List.length_map] at this
    exact this
  obtain ⟨k, hk⟩ : ∃ k, ks[x.nodes.length]? = some k := ⟨_, List.getElem?_eq_getElem hlt⟩
  have hkl : k < ns.length := h.met.lt k (List.mem_of_getElem? hk)
  obtain ⟨nd, hnd⟩ : ∃ nd, ns[k]? = some nd := ⟨_, List.getElem?_eq_getElem hkl⟩
  obtain rfl : nst k = st := by
    rw [h.met.st, List.getElem?_map, hk] at hst
    simpa using hst
  have hnx : (graphSem ns).next (nst k) = movsOf nd.arcs := graph_next hnd (by omega)
  have hml : (movsOf nd.arcs).length = nd.arcs.length := by simp [movsOf]
  have htk : ks.take (x.nodes.length + 1) = ks.take x.nodes.length ++ [k] := by rw [List.take_add_one, hk]; rfl
  have hsum : x.cnt + nd.arcs.length = ((ks.take (x.nodes.length + 1)).map (arcsAt ns)).sum := by
    rw [htk, List.map_append, List.sum_append, ← h.cnt]
    simp [arcsAt, hnd]
  have hcb : x.cnt + nd.arcs.length ≤ 262144 := by
    rw [hsum]
    exact Nat.le_trans (arcs_le (h.met.nd.sublist (List.take_sublist _ _)) (fun j hj => h.met.lt j (List.mem_of_mem_take hj))) h3
  have hus : x.states.length ≤ 20000 := by
    rw [h.met.st, List.length_map]
    have := nodup_len h.met.nd h.met.lt
    omega
  obtain ⟨u, ku, hu, hmet, hpre⟩ := all_yes h2 (movsOf nd.arcs) (u := ⟨x.states, x.cnt, []⟩) h.met (fun m hm' => by
    obtain ⟨i, a, ha, rfl⟩ := mem_movsOf' hm'
    exact ⟨i, a, h4 nd (List.mem_of_getElem? hnd) a ha, rfl⟩) (by rw [hml]; exact hcb)
  have ho : oneState (graphSem ns) 20000 x (nst k) = some ⟨x.nodes ++ [nodeOf ((graphSem ns).look (nst k)) u.arcs], u.states, u.cnt⟩ := by
    unfold oneState
    rw [hnx, hu]
    rfl
  obtain ⟨q1, q2, q3⟩ := allMoves_len hu hus
  obtain ⟨nd', e1, e2, _⟩ := state_sim (L := 20000) (by decide) ho hus q1
  obtain rfl : nodeOf ((graphSem ns).look (nst k)) u.arcs = nd' := by simpa using e1
  rw [hnx] at e2
  have hal : u.arcs.length = nd.arcs.length := by rw [← hml]; exact fitsAll_len e2
  simp only at q2 q3
  refine ⟨_, ku, ho, hmet, ?_, ?_, ?_, ?_⟩
  · have := (List.getElem?_eq_some_iff.1 hst).1
    have := q2.length_le
    simp only [List.length_append, List.length_cons, List.length_nil]
    omega
  · obtain ⟨t, ht⟩ := hpre
    have htk' : ku.take (x.nodes.length + 1) = ks.take (x.nodes.length + 1) := by
      rw [← ht, List.take_append_of_le_length (by omega)]
    simp only [List.length_append, List.length_cons, List.length_nil, Nat.zero_add]
    rw [htk', ← hsum, q3, hml]
  · simp only [arcsIn_append, arcsIn, nodeOf, ← h.cnt']
    rw [q3, hml, hal]
    rfl
  · intro n' hn' a ha
    rcases List.mem_append.1 hn' with hn' | hn'
    · obtain ⟨g1, g2, g3, g4⟩ := h.arcs n' hn' a ha
      exact ⟨g1, g2, fun hb => by have := g3 hb; have := q2.length_le; simp only; omega, g4⟩
    · rw [List.mem_singleton.1 hn'] at ha
      obtain ⟨m, hm1, hm2⟩ := fitsAll_mem e2 a ha
      obtain ⟨i, b, hb, rfl⟩ := mem_movsOf' hm1
      exact ⟨⟨b, h4 nd (List.mem_of_getElem? hnd) b hb, hm2.proc, hm2.bad, hm2.reads, hm2.writes⟩, hm2.lo, hm2.hi, hm2.no⟩

theorem explore_yes {ns : List Node} (hm : mayN ns = true) : ∀ (f : Nat) {x : Expl} {ks : List Nat}, GI ns x ks → ∃ z kz, explore (graphSem ns) 20000 f x = some z ∧ GI ns z kz
  | 0, x, ks, h => ⟨x, ks, rfl, h⟩
  | f + 1, x, ks, h => by
    cases hs : x.states[x.nodes.length]? with
    | none => exact ⟨x, ks, explore_end hs, h⟩
    | some st =>
      obtain ⟨y, ky, h1, h2⟩ := h.step hm hs
      obtain ⟨z, kz, h3, h4⟩ := explore_yes hm f h2
      exact ⟨z, kz, by rw [explore_step hs, h1, Option.bind_some, h3], h4⟩

/-- THE LAW: a graph that may be is explored; what comes of it may be, has no more states, and explored again is itself. -/
theorem again_of {ns : List Node} (hm : mayN ns = true) : ∃ gs ss, explored (graphSem ns) 20000 = some (gs, ss) ∧ ss.length ≤ ns.length ∧ mayN gs = true ∧ gs.length = ss.length ∧ 1 ≤ ss.length ∧ ss.length ≤ 20000 ∧ explored (graphSem gs) ss.length = some (gs, rangeS ss.length) := by
  obtain ⟨h1, h2, h3, h4⟩ := may_parts hm
  have h0 : GI ns ⟨[], [(graphSem ns).begin], 0⟩ [0] := ⟨⟨rfl, by simp, by intro k hk; rw [List.mem_singleton.1 hk]; omega⟩, by simp, by simp, rfl, by simp⟩
  obtain ⟨z, kz, hz, hg⟩ := explore_yes hm 20000 h0
  have he : explored (graphSem ns) 20000 = some (z.nodes, z.states) := by unfold explored; rw [hz]; rfl
  obtain ⟨e1, e2, e3, e4⟩ := explored_again he (by decide) (by decide)
  have hsl : z.states.length ≤ ns.length := by
    rw [hg.met.st, List.length_map]
    exact nodup_len hg.met.nd hg.met.lt
  refine ⟨z.nodes, z.states, he, hsl, ?_, e1, e3, e2, e4⟩
  have hcn : arcsIn z.nodes ≤ 262144 := by
    rw [← hg.cnt', hg.cnt]
    exact Nat.le_trans (arcs_le (hg.met.nd.sublist (List.take_sublist _ _)) (fun j hj => hg.met.lt j (List.mem_of_mem_take hj))) h3
  unfold mayN
  simp only [Bool.and_eq_true, decide_eq_true_eq, List.all_eq_true]
  refine ⟨⟨⟨by omega, by omega⟩, hcn⟩, fun nd hnd a ha => ?_⟩
  obtain ⟨⟨b, hb, p1, p2, p3, p4⟩, p5, p6, p7⟩ := hg.arcs nd hnd a ha
  unfold arcB at hb ⊢
  simp only [Bool.and_eq_true, Bool.or_eq_true, decide_eq_true_eq] at hb ⊢
  rw [p1, p2, p3, p4]
  rw [p2] at p6 p7
  refine ⟨⟨⟨⟨⟨⟨⟨⟨hb.1.1.1.1.1.1.1.1, hb.1.1.1.1.1.1.1.2⟩, hb.1.1.1.1.1.1.2⟩, hb.1.1.1.1.1.2⟩, hb.1.1.1.1.2⟩, hb.1.1.1.2⟩, p5⟩, ?_⟩, ?_⟩
  · by_cases h0 : b.bad = 0
    · have := p6 h0; omega
    · have := p7 h0; omega
  · by_cases h0 : b.bad = 0
    · exact .inl h0
    · exact .inr (p7 h0)

end Go.Proofs.Ytkjalclplfdpmaa
