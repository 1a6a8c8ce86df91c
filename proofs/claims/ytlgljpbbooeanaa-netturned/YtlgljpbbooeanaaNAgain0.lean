/-
  A graph that was explored, explored again, is itself: plain data, of any system.
-/
import Derived.Test.YtlgljpbbooeanaaNGraph2
namespace Go.Proofs.Ytlgljpbbooeanaa

/-- The first states of a graph. -/
def rangeS (c : Nat) : List ByteArray := (List.range c).map nst
theorem rangeS_len (c : Nat) : (rangeS c).length = c := by simp [rangeS]
theorem rangeS_succ (c : Nat) : rangeS (c + 1) = rangeS c ++ [nst c] := by simp [rangeS, List.range_succ]
theorem rangeS_get {c i : Nat} (h : i < c) : (rangeS c)[i]? = some (nst i) := by simp [rangeS, h]
theorem rangeS_none {c i : Nat} (h : c ≤ i) : (rangeS c)[i]? = none := by simp [rangeS, h]
theorem rangeS_not {c : Nat} (h : c < 18446744073709551616) : nst c ∉ rangeS c := by
  intro hm
  simp only [rangeS, List.mem_map, List.mem_range] at hm
  obtain ⟨k, hk, he⟩ := hm
  have := nst_inj (by omega) h he
  omega
theorem plc_rangeS {c t : Nat} (hc : c ≤ 18446744073709551616) (ht : t < c) : plc (rangeS c) (nst t) = some t := by
  induction c with
  | zero => omega
  | succ c ih =>
    rw [rangeS_succ]
    by_cases h : t = c
    · subst h
      have := plc_new (rangeS_not (c := t) (by omega))
      rwa [rangeS_len] at this
    · exact plc_append (ih (by omega) (by omega))
theorem plc_rangeS_none {c : Nat} (hc : c < 18446744073709551616) : plc (rangeS c) (nst c) = none := plc_none.2 (rangeS_not hc)

/-- A move bs an arc has it. -/
structure Like (m : Mov) (a : Arc) : Prop where
  proc : m.proc = a.proc
  bad : m.bad = a.bad
  reads : m.reads = a.reads
  writes : m.writes = a.writes
  turns : m.turns = a.turns
  to : a.bad = 0 → m.to = nst a.to.toNat

def Likes : List Mov → List Arc → Prop
  | [], [] => True
  | m :: r, a :: s => Like m a ∧ Likes r s
  | _, _ => False

theorem like_movOf (k : Nat) (a : Arc) : Like (movOf k a) a := ⟨rfl, rfl, rfl, rfl, rfl, fun h => by simp [movOf, h]⟩
theorem likes_from : ∀ (bs : List Arc) (s : Nat), Likes ((List.range' s bs.length).zipWith movOf bs) bs
  | [], _ => by simp [Likes]
  | a :: r, s => by
    rw [List.length_cons, List.range'_succ, List.zipWith_cons_cons]
    exact ⟨like_movOf s a, likes_from r (s + 1)⟩
theorem likes_movsOf (bs : List Arc) : Likes (movsOf bs) bs := by
  unfold movsOf
  rw [List.range_eq_range']
  exact likes_from bs 0

/-- What is asked of an arc of a state that is explored. -/
structure Fits (m : Mov) (a : Arc) (c : Nat) : Prop where
  proc : a.proc = m.proc
  bad : a.bad = m.bad
  reads : a.reads = m.reads
  writes : a.writes = m.writes
  turns : a.turns = m.turns
  lo : 0 ≤ a.to
  hi : a.bad = 0 → a.to < c
  no : a.bad ≠ 0 → a.to = 0

theorem one_sim {most L : Nat} {u u' : Und} {m : Mov} (h : oneMove most u m = some u') (hL : u'.states.length ≤ L) (h64 : L < 18446744073709551616) :
    ∃ a, u'.arcs = u.arcs ++ [a] ∧ Fits m a u'.states.length ∧ ∀ m', Like m' a → ∀ A, oneMove L ⟨rangeS u.states.length, u.cnt, A⟩ m' = some ⟨rangeS u'.states.length, u'.cnt, A ++ [a]⟩ := by
  have harc : ∀ (k : Nat) m', Like m' (arcOf m k) → arcOf m' k = arcOf m k := fun k m' hl => by
    have h1 := hl.proc; have h2 := hl.bad; have h3 := hl.reads; have h4 := hl.writes; have h5 := hl.turns
    simp only [arcOf] at h1 h2 h3 h4 h5 ⊢
    rw [h1, h2, h3, h4, h5]
  unfold oneMove at h
  by_cases hb : m.bad = 0
  · rw [if_pos hb] at h
    cases hp : plc u.states m.to with
    | some k =>
      rw [hp] at h
      simp only at h
      by_cases hc : 262144 < u.cnt + 1
      · rw [if_pos hc] at h; cases h
      · rw [if_neg hc] at h
        cases h
        have hk := (plc_some hp).2
        refine ⟨arcOf m k, rfl, ⟨rfl, rfl, rfl, rfl, rfl, Int.natCast_nonneg _, fun _ => by simp only [arcOf]; omega, fun hn => absurd hb hn⟩, fun m' hl A => ?_⟩
        have hb' : m'.bad = 0 := by rw [hl.bad]; exact hb
        have hto : m'.to = nst k := by rw [hl.to hb]; rfl
        simp only at hL
        unfold oneMove
        simp only [hb', if_true, hto, plc_rangeS (show u.states.length ≤ 18446744073709551616 by omega) hk, if_neg hc, harc k m' hl]
    | none =>
      rw [hp] at h
      simp only at h
      by_cases hm : u.states.length = most
      · rw [if_pos hm] at h; cases h
      · rw [if_neg hm] at h
        by_cases hc : 262144 < u.cnt + 1
        · rw [if_pos hc] at h; cases h
        · rw [if_neg hc] at h
          cases h
          simp only [List.length_append, List.length_cons, List.length_nil, Nat.zero_add] at hL ⊢
          refine ⟨arcOf m u.states.length, rfl, ⟨rfl, rfl, rfl, rfl, rfl, Int.natCast_nonneg _, fun _ => by simp only [arcOf]; omega, fun hn => absurd hb hn⟩, fun m' hl A => ?_⟩
          have hb' : m'.bad = 0 := by rw [hl.bad]; exact hb
          have hto : m'.to = nst u.states.length := by rw [hl.to hb]; rfl
          have hne : ¬ u.states.length = L := by omega
          unfold oneMove
          simp only [hb', if_true, hto, plc_rangeS_none (show u.states.length < 18446744073709551616 by omega), rangeS_len, if_neg hne, if_neg hc, harc _ m' hl]
          rw [rangeS_succ]
  · rw [if_neg hb] at h
    by_cases hc : 262144 < u.cnt + 1
    · rw [if_pos hc] at h; cases h
    · rw [if_neg hc] at h
      cases h
      refine ⟨arcOf m 0, rfl, ⟨rfl, rfl, rfl, rfl, rfl, Int.natCast_nonneg _, fun hn => absurd hn hb, fun _ => rfl⟩, fun m' hl A => ?_⟩
      have hb' : ¬ m'.bad = 0 := by rw [hl.bad]; exact hb
      have ha := harc 0 m' hl
      unfold oneMove
      simp only [if_neg hb', if_neg hc]
      rw [ha]

/-- Arcs fit their moves. -/
def FitsAll : List Mov → List Arc → Nat → Prop
  | [], [], _ => True
  | m :: r, a :: s, c => Fits m a c ∧ FitsAll r s c
  | _, _, _ => False
theorem Fits.up {m : Mov} {a : Arc} {c d : Nat} (h : Fits m a c) (hd : c ≤ d) : Fits m a d := ⟨h.proc, h.bad, h.reads, h.writes, h.turns, h.lo, fun hb => by have := h.hi hb; omega, h.no⟩
theorem FitsAll.up : ∀ {ms : List Mov} {bs : List Arc} {c d : Nat}, FitsAll ms bs c → c ≤ d → FitsAll ms bs d
  | [], [], _, _, _, _ => trivial
  | _ :: _, _ :: _, _, _, h, hd => ⟨h.1.up hd, FitsAll.up h.2 hd⟩

theorem all_sim {most L : Nat} (h64 : L < 18446744073709551616) : ∀ {l : List Mov} {u u' : Und}, allMoves most u l = some u' → u.states.length ≤ most → u'.states.length ≤ L →
    ∃ bs, u'.arcs = u.arcs ++ bs ∧ FitsAll l bs u'.states.length ∧ ∀ ms', Likes ms' bs → ∀ A, allMoves L ⟨rangeS u.states.length, u.cnt, A⟩ ms' = some ⟨rangeS u'.states.length, u'.cnt, A ++ bs⟩
  | [], u, u', h, _, hL => by
    cases h
    refine ⟨[], by simp, trivial, fun ms' hl A => ?_⟩
    cases ms' with
    | nil => simp [allMoves]
    | cons _ _ => exact hl.elim
  | m :: r, u, u', h, hu, hL => by
    obtain ⟨v, h1, h2⟩ := Option.bind_eq_some_iff.1 h
    obtain ⟨a1, a2, _⟩ := oneMove_len h1 hu
    obtain ⟨_, b2, _⟩ := allMoves_len h2 a1
    have hvL : v.states.length ≤ L := Nat.le_trans b2.length_le hL
    obtain ⟨a, e1, f1, s1⟩ := one_sim h1 hvL h64
    obtain ⟨bs, e2, f2, s2⟩ := all_sim h64 h2 a1 hL
    refine ⟨a :: bs, by rw [e2, e1]; simp, ⟨f1.up b2.length_le, f2⟩, fun ms' hl A => ?_⟩
    cases ms' with
    | nil => exact hl.elim
    | cons m' r' =>
      rw [allMoves, s1 m' hl.1 A, Option.bind_some, s2 r' hl.2 (A ++ [a])]
      simp

theorem state_sim {M : Sem} {most L : Nat} (h64 : L < 18446744073709551616) {x y : Expl} {st : ByteArray} (h : oneState M most x st = some y) (hx : x.states.length ≤ most) (hL : y.states.length ≤ L) :
    ∃ nd, y.nodes = x.nodes ++ [nd] ∧ FitsAll (M.next st) nd.arcs y.states.length ∧ ∀ M' : Sem, ∀ st', M'.next st' = movsOf nd.arcs → M'.look st' = ⟨nd.props, nd.en, nd.pr, nd.ac⟩ →
      oneState M' L ⟨x.nodes, rangeS x.states.length, x.cnt⟩ st' = some ⟨y.nodes, rangeS y.states.length, y.cnt⟩ := by
  obtain ⟨u, hu, rfl⟩ := Option.map_eq_some_iff.1 h
  obtain ⟨bs, e, f, s⟩ := all_sim h64 hu hx hL
  simp only [List.nil_append] at e
  refine ⟨nodeOf (M.look st) u.arcs, rfl, by rw [e] at *; exact f, fun M' st' hn hlk => ?_⟩
  have := s (movsOf bs) (likes_movsOf bs) []
  unfold oneState
  simp only [nodeOf, e] at hn hlk ⊢
  rw [hn, this, hlk]
  simp

theorem explore_len {M : Sem} {most : Nat} : ∀ {f : Nat} {x z : Expl}, explore M most f x = some z → x.states.length ≤ most → z.states.length ≤ most ∧ x.states <+: z.states ∧ x.nodes <+: z.nodes
  | 0, x, z, h, hx => by cases h; exact ⟨hx, List.prefix_refl _, List.prefix_refl _⟩
  | f + 1, x, z, h, hx => by
    cases hs : x.states[x.nodes.length]? with
    | none => rw [explore_end hs] at h; cases h; exact ⟨hx, List.prefix_refl _, List.prefix_refl _⟩
    | some st =>
      rw [explore_step hs] at h
      obtain ⟨y, h1, h2⟩ := Option.bind_eq_some_iff.1 h
      obtain ⟨u, hu, rfl⟩ := Option.map_eq_some_iff.1 h1
      obtain ⟨a, b, _⟩ := allMoves_len hu hx
      obtain ⟨c, d, e⟩ := explore_len h2 a
      exact ⟨c, b.trans d, (List.prefix_append _ _).trans e⟩

/-- All that is met is gone over. -/
theorem explore_whole {M : Sem} {most : Nat} : ∀ {f : Nat} {x z : Expl}, explore M most f x = some z → x.states.length ≤ most → x.nodes.length ≤ x.states.length → most ≤ x.nodes.length + f → z.nodes.length = z.states.length
  | 0, x, z, h, hx, hn, hf => by cases h; omega
  | f + 1, x, z, h, hx, hn, hf => by
    cases hs : x.states[x.nodes.length]? with
    | none =>
      rw [explore_end hs] at h
      cases h
      have := List.getElem?_eq_none_iff.1 hs
      omega
    | some st =>
      rw [explore_step hs] at h
      obtain ⟨y, h1, h2⟩ := Option.bind_eq_some_iff.1 h
      obtain ⟨a, b, c⟩ := oneState_len h1 hx
      have hlt := (List.getElem?_eq_some_iff.1 hs).1
      exact explore_whole h2 a (by have := b.length_le; omega) (by omega)

theorem explore_sim {M : Sem} {most : Nat} {z : Expl} (h64 : z.states.length < 18446744073709551616) (hz : z.nodes.length = z.states.length) : ∀ {f f' : Nat} {x : Expl}, explore M most f x = some z → x.states.length ≤ most → x.nodes.length ≤ x.states.length → z.states.length ≤ x.nodes.length + f' →
    explore (graphSem z.nodes) z.states.length f' ⟨x.nodes, rangeS x.states.length, x.cnt⟩ = some ⟨z.nodes, rangeS z.states.length, z.cnt⟩
  | 0, f', x, h, hx, hn, hf => by
    cases h
    exact explore_end (show (rangeS z.states.length)[z.nodes.length]? = none from rangeS_none (by omega))
  | f + 1, f', x, h, hx, hn, hf => by
    cases hs : x.states[x.nodes.length]? with
    | none =>
      rw [explore_end hs] at h
      cases h
      exact explore_end (show (rangeS z.states.length)[z.nodes.length]? = none from rangeS_none (by omega))
    | some st =>
      rw [explore_step hs] at h
      obtain ⟨y, h1, h2⟩ := Option.bind_eq_some_iff.1 h
      obtain ⟨a, b, c⟩ := oneState_len h1 hx
      have hlt := (List.getElem?_eq_some_iff.1 hs).1
      obtain ⟨_, d, e⟩ := explore_len h2 a
      have hbl := b.length_le
      have hdl := d.length_le
      obtain ⟨f'', rfl⟩ : ∃ k, f' = k + 1 := ⟨f' - 1, by omega⟩
      obtain ⟨nd, hy, _, hsim⟩ := state_sim (L := z.states.length) h64 h1 hx hdl
      have hnd : z.nodes[x.nodes.length]? = some nd := by
        obtain ⟨t, ht⟩ := e
        rw [← ht, hy]
        simp
      rw [explore_step (st := nst x.nodes.length) (by show (rangeS _)[_]? = _; exact rangeS_get hlt),
        hsim (graphSem z.nodes) _ (graph_next hnd (by omega)) (graph_look hnd (by omega)), Option.bind_some]
      exact explore_sim h64 hz h2 a (by omega) (by omega)

/-- THE LAW: what was explored, explored again with room enough, is itself. -/
theorem explored_again {M : Sem} {most : Nat} {gs : List Node} {ss : List ByteArray} (h : explored M most = some (gs, ss)) (h1 : 1 ≤ most) (h64 : most < 18446744073709551616) : gs.length = ss.length ∧ ss.length ≤ most ∧ 1 ≤ ss.length ∧ explored (graphSem gs) ss.length = some (gs, rangeS ss.length) := by
  obtain ⟨z, hz, he⟩ := Option.map_eq_some_iff.1 h
  obtain ⟨rfl, rfl⟩ : z.nodes = gs ∧ z.states = ss := by simpa using he
  have hw := explore_whole hz (by simpa using h1) (by simp) (by simp)
  obtain ⟨hl, hp, _⟩ := explore_len hz (by simpa using h1)
  have h1' : 1 ≤ z.states.length := by simpa using hp.length_le
  refine ⟨hw, hl, h1', ?_⟩
  have := explore_sim (f' := z.states.length) (by omega) hw hz (by simpa using h1) (by simp) (by simp)
  unfold explored
  have hr : rangeS ([M.begin] : List ByteArray).length = [(graphSem z.nodes).begin] := rfl
  simp only [hr] at this
  rw [this]
  rfl

end Go.Proofs.Ytlgljpbbooeanaa
