/-
  The walk of the statement NetTurned, over the contracts of the program's functions.
-/
import Derived.Test.YtlgljpbbooeanaaNGraph2
import Derived.Test.YtlgljpbbooeanaaNRows
import Derived.Test.YtlgljpbbooeanaaNAgain
import Derived.Test.YtlgljpbbooeanaaNNode
namespace Go.Proofs.Ytlgljpbbooeanaa

/-- A state that is reached. -/
inductive Reach (M : Sem) : ByteArray → Prop
  | start : Reach M M.begin
  | step {s : ByteArray} {m : Mov} : Reach M s → m ∈ M.next s → m.bad = 0 → Reach M m.to

theorem oneMove_mem {most : Nat} {u u' : Und} {m : Mov} (h : oneMove most u m = some u') : (∀ s ∈ u'.states, s ∈ u.states ∨ (m.bad = 0 ∧ m.to = s)) ∧ (m.bad = 0 → m.to ∈ u'.states) ∧ (∀ s ∈ u.states, s ∈ u'.states) ∧ (u.states.Nodup → u'.states.Nodup) ∧ u'.arcs.length = u.arcs.length + 1 := by
  unfold oneMove at h
  by_cases hb : m.bad = 0
  · rw [if_pos hb] at h
    cases hp : plc u.states m.to with
    | some k =>
      rw [hp] at h
      simp only at h
      split at h
      · cases h
      · cases h
        have := plc_some hp
        exact ⟨fun s hs => .inl hs, fun _ => List.mem_of_getElem? this.1, fun s hs => hs, id, by simp⟩
    | none =>
      rw [hp] at h
      simp only at h
      split at h
      · cases h
      · split at h
        · cases h
        · cases h
          have hn := plc_none.1 hp
          refine ⟨fun s hs => ?_, fun _ => by simp, fun s hs => by simp [hs], fun hd => ?_, by simp⟩
          · rcases List.mem_append.1 hs with hs | hs
            · exact .inl hs
            · exact .inr ⟨hb, (List.mem_singleton.1 hs).symm⟩
          · simp only
            rw [List.nodup_append]
            exact ⟨hd, by simp, fun a ha b hb' e => by rw [List.mem_singleton.1 hb'] at e; exact hn (e ▸ ha)⟩
  · rw [if_neg hb] at h
    split at h
    · cases h
    · cases h
      exact ⟨fun s hs => .inl hs, fun h => absurd h hb, fun s hs => hs, id, by simp⟩

theorem allMoves_mem {most : Nat} {l : List Mov} : ∀ {u u' : Und}, allMoves most u l = some u' → (∀ s ∈ u'.states, s ∈ u.states ∨ ∃ m ∈ l, m.bad = 0 ∧ m.to = s) ∧ (∀ m ∈ l, m.bad = 0 → m.to ∈ u'.states) ∧ (∀ s ∈ u.states, s ∈ u'.states) ∧ (u.states.Nodup → u'.states.Nodup) ∧ u'.arcs.length = u.arcs.length + l.length := by
  induction l with
  | nil => intro u u' h; cases h; exact ⟨fun s hs => .inl hs, fun m hm => absurd hm (by simp), fun s hs => hs, id, rfl⟩
  | cons m r ih =>
    intro u u' h
    obtain ⟨v, h1, h2⟩ := Option.bind_eq_some_iff.1 h
    obtain ⟨a1, a2, a3, a4, a5⟩ := oneMove_mem h1
    obtain ⟨b1, b2, b3, b4, b5⟩ := ih h2
    refine ⟨fun s hs => ?_, fun m' hm' hb => ?_, fun s hs => b3 s (a3 s hs), fun hd => b4 (a4 hd), by rw [b5, a5, List.length_cons]; omega⟩
    · rcases b1 s hs with hs | ⟨m', hm', hb⟩
      · rcases a1 s hs with hs | hb
        · exact .inl hs
        · exact .inr ⟨m, by simp, hb⟩
      · exact .inr ⟨m', by simp [hm'], hb⟩
    · rcases List.mem_cons.1 hm' with rfl | hm'
      · exact b3 _ (a2 hb)
      · exact b2 m' hm' hb

/-- What is known while a system is explored. -/
structure RI (M : Sem) (x : Expl) : Prop where
  reach : ∀ s ∈ x.states, Reach M s
  closed : ∀ (i : Nat) (st : ByteArray), i < x.nodes.length → x.states[i]? = some st → ∀ m ∈ M.next st, m.bad = 0 → m.to ∈ x.states
  nodup : x.states.Nodup
  begin : M.begin ∈ x.states
  tells : ∀ (i : Nat) (st : ByteArray) (nd : Node), x.states[i]? = some st → x.nodes[i]? = some nd → nd.arcs.length = (M.next st).length ∧ nd.props = (M.look st).props
  le : x.nodes.length ≤ x.states.length

theorem pre_get {α : Type} {a b : List α} (h : a <+: b) {i : Nat} {x : α} (hx : a[i]? = some x) : b[i]? = some x := by
  obtain ⟨t, rfl⟩ := h
  rw [List.getElem?_append_left (List.getElem?_eq_some_iff.1 hx).1]
  exact hx

theorem RI.step {M : Sem} {most : Nat} {x y : Expl} {st : ByteArray} (h : RI M x) (hl : x.states.length ≤ most) (hs : x.states[x.nodes.length]? = some st) (ho : oneState M most x st = some y) : RI M y := by
  obtain ⟨u, hu, rfl⟩ := Option.map_eq_some_iff.1 ho
  obtain ⟨a1, a2, a3, a4, a5⟩ := allMoves_mem hu
  obtain ⟨b1, b2, b3⟩ := allMoves_len hu hl
  have hlt := (List.getElem?_eq_some_iff.1 hs).1
  have hst := h.reach st (List.mem_of_getElem? hs)
  have hat : ∀ {i : Nat} {s : ByteArray}, i < x.states.length → u.states[i]? = some s → x.states[i]? = some s := fun {i s} hi hx => by
    have := pre_get b2 (List.getElem?_eq_getElem hi)
    rw [this] at hx
    rw [List.getElem?_eq_getElem hi]
    exact hx
  refine ⟨fun s hs' => ?_, fun i s hi hs' m hm hb => ?_, a4 h.nodup, a3 _ h.begin, fun i s nd hs' hn => ?_, ?_⟩
  · rcases a1 s hs' with hs' | ⟨m, hm, hb, rfl⟩
    · exact h.reach s hs'
    · exact .step hst hm hb
  · simp only [List.length_append, List.length_cons, List.length_nil] at hi
    have hi' : i < x.states.length := by omega
    have hs2 := hat hi' hs'
    rcases Nat.lt_or_ge i x.nodes.length with h1 | h1
    · exact a3 _ (h.closed i s h1 hs2 m hm hb)
    · obtain rfl : i = x.nodes.length := by omega
      rw [hs] at hs2
      cases hs2
      exact a2 m hm hb
  · simp only at hs' hn
    rcases Nat.lt_or_ge i x.nodes.length with h1 | h1
    · rw [List.getElem?_append_left h1] at hn
      exact h.tells i s nd (hat (by omega) hs') hn
    · have hi : i = x.nodes.length := by
        have := (List.getElem?_eq_some_iff.1 hn).1
        simp at this
        omega
      subst hi
      rw [List.getElem?_append_right (Nat.le_refl _), Nat.sub_self] at hn
      cases hn
      have hs2 := hat hlt hs'
      rw [hs] at hs2
      cases hs2
      refine ⟨?_, rfl⟩
      show u.arcs.length = _
      rw [a5]
      simp
  · have := b2.length_le
    simp only [List.length_append, List.length_cons, List.length_nil] at this ⊢
    omega

theorem RI.run {M : Sem} {most : Nat} : ∀ {f : Nat} {x z : Expl}, RI M x → x.states.length ≤ most → most ≤ x.nodes.length + f → explore M most f x = some z → RI M z ∧ z.nodes.length = z.states.length := by
  intro f
  induction f with
  | zero =>
    intro x z h hl hf he
    cases he
    exact ⟨h, by have := h.le; omega⟩
  | succ f ih =>
    intro x z h hl hf he
    cases hs : x.states[x.nodes.length]? with
    | none =>
      rw [explore_end hs] at he
      cases he
      have := List.getElem?_eq_none_iff.1 hs
      exact ⟨h, by have := h.le; omega⟩
    | some st =>
      rw [explore_step hs] at he
      obtain ⟨y, h1, h2⟩ := Option.bind_eq_some_iff.1 he
      have hl2 := oneState_len h1 hl
      exact ih (h.step hl hs h1) hl2.1 (by rw [hl2.2.2]; omega) h2

/-- What is explored is what is reached. -/
theorem explored_reach {M : Sem} {most : Nat} {gs : List Node} {ss : List ByteArray} (h : explored M most = some (gs, ss)) (h1 : 1 ≤ most) : ss.Nodup ∧ (∀ s, s ∈ ss ↔ Reach M s) ∧ gs.length = ss.length ∧ ∀ (i : Nat) (st : ByteArray) (nd : Node), ss[i]? = some st → gs[i]? = some nd → nd.arcs.length = (M.next st).length ∧ nd.props = (M.look st).props := by
  obtain ⟨z, hz, he⟩ := Option.map_eq_some_iff.1 h
  cases he
  obtain ⟨hr, hlen⟩ := RI.run (x := ⟨[], [M.begin], 0⟩) ⟨fun s hs => by rw [List.mem_singleton.1 hs]; exact .start, fun i st hi => absurd hi (by simp), by simp, by simp, fun i st nd _ hn => absurd hn (by simp), by simp⟩ (by simpa using h1) (by simp) hz
  refine ⟨hr.nodup, fun s => ⟨hr.reach s, fun hs => ?_⟩, hlen, hr.tells⟩
  induction hs with
  | start => exact hr.begin
  | step _ hm hb ih =>
    obtain ⟨i, hi, he⟩ := List.mem_iff_getElem.1 ih
    exact hr.closed i _ (by rw [hlen]; exact hi) (by rw [List.getElem?_eq_getElem hi, he]) _ hm hb

theorem nodup_sub {α : Type} [DecidableEq α] : ∀ {a b : List α}, a.Nodup → (∀ x ∈ a, x ∈ b) → a.length ≤ b.length
  | [], _, _, _ => Nat.zero_le _
  | x :: r, b, hn, hs => by
    have hx := hs x (by simp)
    have hn' := List.nodup_cons.1 hn
    have := nodup_sub (a := r) (b := b.erase x) hn'.2 (fun y hy => by
      have hne : y ≠ x := fun e => hn'.1 (e ▸ hy)
      exact (List.mem_erase_of_ne hne).2 (hs y (by simp [hy])))
    rw [List.length_erase_of_mem hx] at this
    have hp : 0 < b.length := List.length_pos_of_mem hx
    simp only [List.length_cons]
    omega

/-- The arcs of each node the other way round, and a node more that nobody leads to. -/
def turnX (x : Node) : Node := ⟨x.arcs.reverse, x.props, x.en, x.pr, x.ac⟩
def turnN (ns : List Node) : List Node := ns.map turnX ++ [⟨[], 77, false, false, false⟩]
theorem turnN_len (ns : List Node) : (turnN ns).length = ns.length + 1 := by simp [turnN]
theorem turnN_get {ns : List Node} {k : Nat} {x : Node} (h : ns[k]? = some x) : (turnN ns)[k]? = some (turnX x) := by
  unfold turnN
  rw [List.getElem?_append_left (by rw [List.length_map]; exact (List.getElem?_eq_some_iff.1 h).1), List.getElem?_map, h]
  rfl
theorem arcB_up {n : Nat} {a : Arc} (h : arcB n a = true) : arcB (n + 1) a = true := by
  unfold arcB at h ⊢
  simp only [Bool.and_eq_true, Bool.or_eq_true, decide_eq_true_eq] at h ⊢
  obtain ⟨⟨⟨⟨⟨⟨⟨⟨h1, h2⟩, h3⟩, h4⟩, h5⟩, h6⟩, h7⟩, h8⟩, h9⟩ := h
  exact ⟨⟨⟨⟨⟨⟨⟨⟨h1, h2⟩, h3⟩, h4⟩, h5⟩, h6⟩, h7⟩, by omega⟩, h9⟩
theorem arcsIn_turn (ns : List Node) : arcsIn (turnN ns) = arcsIn ns := by
  unfold turnN
  induction ns with
  | nil => rfl
  | cons x r ih => rw [List.map_cons, List.cons_append, arcsIn, arcsIn, ih]; simp [turnX]
theorem may_turn {ns : List Node} (h : mayN ns = true) (hl : ns.length < 20000) : mayN (turnN ns) = true := by
  simp only [mayN, Bool.and_eq_true, decide_eq_true_eq, List.all_eq_true] at h ⊢
  rw [turnN_len, arcsIn_turn]
  refine ⟨⟨⟨by omega, by omega⟩, h.1.2⟩, fun x hx a ha => ?_⟩
  unfold turnN at hx
  rcases List.mem_append.1 hx with hx | hx
  · obtain ⟨y, hy, rfl⟩ := List.mem_map.1 hx
    exact arcB_up (h.2 y hy a (by simpa [turnX] using ha))
  · rw [List.mem_singleton.1 hx] at ha
    simp at ha

theorem movs_mem {l : List Arc} {t : ByteArray} : (∃ m ∈ movsOf l, m.bad = 0 ∧ m.to = t) ↔ ∃ a ∈ l, a.bad = 0 ∧ nst a.to.toNat = t := by
  unfold movsOf
  constructor
  · rintro ⟨m, hm, hb, ht⟩
    obtain ⟨i, hi, he⟩ := List.mem_iff_getElem.1 hm
    rw [List.getElem_zipWith] at he
    subst he
    simp only [movOf] at hb ht
    rw [if_pos hb] at ht
    exact ⟨_, List.getElem_mem _, hb, ht⟩
  · rintro ⟨a, ha, hb, ht⟩
    obtain ⟨i, hi, rfl⟩ := List.mem_iff_getElem.1 ha
    refine ⟨movOf i l[i], List.mem_iff_getElem.2 ⟨i, by simpa using hi, by simp⟩, hb, ?_⟩
    simp only [movOf]
    rw [if_pos hb]
    exact ht

/-- The nodes that are reached are the same. -/
theorem turn_reach {ns : List Node} (hm : mayN ns = true) (hl : ns.length < 20000) : (∀ s, Reach (graphSem ns) s → Reach (graphSem (turnN ns)) s ∧ ∃ k, k < ns.length ∧ s = nst k) ∧ (∀ s, Reach (graphSem (turnN ns)) s → Reach (graphSem ns) s) := by
  have hmm := hm
  simp only [mayN, Bool.and_eq_true, decide_eq_true_eq, List.all_eq_true] at hmm
  have h1 : 1 ≤ ns.length := hmm.1.1.1
  have hto : ∀ {k : Nat} {x : Node} {a : Arc}, ns[k]? = some x → a ∈ x.arcs → a.bad = 0 → a.to.toNat < ns.length := fun {k x a} hx ha hb => by
    have := hmm.2 x (List.mem_of_getElem? hx) a ha
    unfold arcB at this
    simp only [Bool.and_eq_true, decide_eq_true_eq] at this
    obtain ⟨⟨⟨_, h7⟩, h8⟩, _⟩ := this
    omega
  have key : ∀ {k : Nat} {x : Node}, ns[k]? = some x → (graphSem ns).next (nst k) = movsOf x.arcs ∧ (graphSem (turnN ns)).next (nst k) = movsOf x.arcs.reverse := fun {k x} hx => ⟨graph_next hx (by omega), graph_next (turnN_get hx) (by rw [turnN_len]; omega)⟩
  constructor
  · intro s hs
    induction hs with
    | start => exact ⟨.start, 0, h1, rfl⟩
    | step _ hm' hb ih =>
      rename_i s' m _
      obtain ⟨hr, k, hk, rfl⟩ := ih
      have hx := List.getElem?_eq_getElem hk
      obtain ⟨e1, e2⟩ := key hx
      rw [e1] at hm'
      obtain ⟨a, ha, hab, hat⟩ := movs_mem.1 ⟨m, hm', hb, rfl⟩
      obtain ⟨m2, hm2, hb2, ht2⟩ := movs_mem.2 ⟨a, List.mem_reverse.2 ha, hab, hat⟩
      refine ⟨?_, a.to.toNat, hto hx ha hab, hat.symm⟩
      rw [← ht2]
      exact .step hr (by rw [e2]; exact hm2) hb2
  · have both : ∀ s, Reach (graphSem (turnN ns)) s → Reach (graphSem ns) s ∧ ∃ k, k < ns.length ∧ s = nst k := by
      intro s hs
      induction hs with
      | start => exact ⟨.start, 0, h1, rfl⟩
      | step _ hm' hb ih =>
        rename_i s' m _
        obtain ⟨hr, k, hk, rfl⟩ := ih
        have hx := List.getElem?_eq_getElem hk
        obtain ⟨e1, e2⟩ := key hx
        rw [e2] at hm'
        obtain ⟨a, ha, hab, hat⟩ := movs_mem.1 ⟨m, hm', hb, rfl⟩
        have ha' := List.mem_reverse.1 ha
        obtain ⟨m2, hm2, hb2, ht2⟩ := movs_mem.2 ⟨a, ha', hab, hat⟩
        refine ⟨?_, a.to.toNat, hto hx ha' hab, hat.symm⟩
        rw [← ht2]
        exact .step hr (by rw [e1]; exact hm2) hb2
    exact fun s hs => (both s hs).1

/-- What NetTurned asks. -/
theorem turn_same {ns : List Node} (hm : mayN ns = true) (hl : ns.length < 20000) {gs ks : List Node} {a b : List ByteArray} (h1 : explored (graphSem ns) 20000 = some (gs, a)) (h2 : explored (graphSem (turnN ns)) 20000 = some (ks, b)) :
    a.length = b.length ∧ gs.length = ks.length ∧ gs.length = a.length ∧ ∀ (j : Nat) (hj : j < a.length) (hg : j < gs.length), ∃ (i : Nat) (hi : i < b.length) (hk : i < ks.length), b[i] = a[j] ∧ gs[j].arcs.length = ks[i].arcs.length ∧ gs[j].props = ks[i].props := by
  obtain ⟨n1, r1, l1, t1⟩ := explored_reach h1 (by decide)
  obtain ⟨n2, r2, l2, t2⟩ := explored_reach h2 (by decide)
  obtain ⟨f1, f2⟩ := turn_reach hm hl
  have hab : ∀ s ∈ a, s ∈ b := fun s hs => (r2 s).2 (f1 s ((r1 s).1 hs)).1
  have hba : ∀ s ∈ b, s ∈ a := fun s hs => (r1 s).2 (f2 s ((r2 s).1 hs))
  have hlen : a.length = b.length := Nat.le_antisymm (nodup_sub n1 hab) (nodup_sub n2 hba)
  refine ⟨hlen, by omega, l1, fun j hj hg => ?_⟩
  obtain ⟨i, hi, he⟩ := List.mem_iff_getElem.1 (hab a[j] (List.getElem_mem hj))
  have hk : i < ks.length := by omega
  obtain ⟨_, k, hkn, hs⟩ := f1 a[j] ((r1 _).1 (List.getElem_mem hj))
  have hx := List.getElem?_eq_getElem hkn
  have hsz : ns.length ≤ 18446744073709551616 := by omega
  obtain ⟨p1, p2⟩ := t1 j a[j] gs[j] (List.getElem?_eq_getElem hj) (List.getElem?_eq_getElem hg)
  obtain ⟨q1, q2⟩ := t2 i a[j] ks[i] (by rw [List.getElem?_eq_getElem hi, he]) (List.getElem?_eq_getElem hk)
  rw [hs, graph_next hx hsz] at p1
  rw [hs, graph_look hx hsz] at p2
  rw [hs, graph_next (turnN_get hx) (by rw [turnN_len]; omega)] at q1
  rw [hs, graph_look (turnN_get hx) (by rw [turnN_len]; omega)] at q2
  refine ⟨i, hi, hk, he, ?_, by rw [p2, q2]; rfl⟩
  rw [p1, q1]
  simp [movsOf, turnX]

end Go.Proofs.Ytlgljpbbooeanaa

set_option linter.unusedVariables false
set_option linter.unusedSimpArgs false
namespace Go.Proofs.Ytlgljpbbooeanaa
open Go.RowKit

/-- What is known between two nodes. -/
structure TO (B : Nat) (A : World) (tb : Nat) (no : Option Addr) (nc : Nat) (nodes : List Node) (nxs : List NX) (Z : Nat → Prop) : Prop where
  tbx : A.heap[tb]? = some (.cells #[.slice no nodes.length nc] 24 (0, 0))
  row : A.ownsRow B 53 5 (.slice no nodes.length nc) nodes.length (nxflat nxs)
  eq : nxs.map NX.nd = nodes
  nz : ∀ y ∈ nxs, NXZ A Z y
  zt : ∀ b, Z b → b < A.heap.size ∧ (b < B ∨ ∃ cs, A.heap[b]? = some (.cells cs 55 (0, 0)))
  old : ∀ b, b < B → Z b
  tb_ : B ≤ tb
theorem TO.mv {B : Nat} {A A' : World} {tb : Nat} {no : Option Addr} {nc : Nat} {nodes : List Node} {nxs : List NX} {Z S : Nat → Prop} (h : TO B A tb no nc nodes nxs Z) (hm : Mv S A A') (h1 : ¬ S tb) (h2 : ∀ k, (Value.slice no nodes.length nc).ownBlock = some k → ¬ S k) (h3 : ∀ b, Z b → ¬ S b) : TO B A' tb no nc nodes nxs Z :=
  ⟨hm.heap h.tbx h1, row_mv hm h.row h2, h.eq, fun y hy => (h.nz y hy).mv hm h3 (fun _ hz => hz), fun b hb => by
    obtain ⟨g1, g2⟩ := h.zt b hb
    exact ⟨Nat.lt_of_lt_of_le g1 hm.size, g2.imp id fun ⟨cs, hc⟩ => ⟨cs, hm.heap hc (h3 b hb)⟩⟩, h.old, h.tb_⟩
theorem TO.nu {B : Nat} {A A' : World} {tb : Nat} {no : Option Addr} {nc : Nat} {nodes : List Node} {nxs : List NX} {Z : Nat → Prop} (h : TO B A tb no nc nodes nxs Z) (hm : Nu A A') : TO B A' tb no nc nodes nxs Z := h.mv hm id (fun _ _ => id) (fun _ _ => id)
/-- A block of arcs or of a node, new, may be written into. -/
theorem TO.apart {B : Nat} {A : World} {tb : Nat} {no : Option Addr} {nc : Nat} {nodes : List Node} {nxs : List NX} {Z : Nat → Prop} (h : TO B A tb no nc nodes nxs Z) {g : Nat} {cs : Array Value} (hg : A.heap[g]? = some (.cells cs 55 (0, 0))) : g ≠ tb ∧ (Value.slice no nodes.length nc).ownBlock ≠ some g := by
  refine ⟨fun e => ?_, fun e => ?_⟩
  · rw [e, h.tbx] at hg; simp at hg
  · obtain ⟨_, _, cs', hc⟩ := row_blk h.row e
    rw [hc] at hg; simp at hg

/-- What is known between two arcs. -/
structure TI (B : Nat) (w A : World) (tb : Nat) (no : Option Addr) (nc : Nat) (nodes : List Node) (nxs : List NX) (Z : Nat → Prop) (va : Option Addr) (vac : Nat) (axs : List AX) : Prop where
  to : TO B A tb no nc nodes nxs Z
  lrow : A.ownsRow B 55 6 (.slice va axs.length vac) axs.length (axflat axs)
  laz : ∀ y ∈ axs, IntsAt A B y.ra y.a.reads ∧ IntsAt A B y.wa y.a.writes
  lnz : ∀ g, (Value.slice va axs.length vac).ownBlock = some g → ¬ Z g
  nu : Below B w A

theorem TI.arc {B : Nat} {w A A1 A2 : World} {tb : Nat} {no : Option Addr} {nc : Nat} {nodes : List Node} {nxs : List NX} {Z : Nat → Prop} {va : Option Addr} {vac : Nat} {axs : List AX} {x : AX} {g' vac' : Nat} (h : TI B w A tb no nc nodes nxs Z va vac axs) (hn : Nu A A1) (hg : A1.grownBy A2 (Value.slice va axs.length vac).ownBlock)
    (hr : A2.ownsRow B 55 6 (.slice (some ⟨g', 0, none⟩) (axs.length + 1) vac') (axs.length + 1) (axflat axs ++ x.cells)) (hgg : (Value.slice va axs.length vac).ownBlock = some g' ∨ g' = A1.heap.size) (hx : IntsAt A B x.ra x.a.reads ∧ IntsAt A B x.wa x.a.writes) :
    TI B w A2 tb no nc nodes nxs Z (some ⟨g', 0, none⟩) vac' (axs ++ [x]) ∧ Mv (fun b => (Value.slice va axs.length vac).ownBlock = some b) A A2 := by
  have hm : Mv (fun b => (Value.slice va axs.length vac).ownBlock = some b) A A2 := (hn.mono (fun _ h => h.elim)).trans (Mv.grown hg) (fun b hb => .inl hb)
  have hB : B ≤ A.heap.size := by have := lt_of_block h.to.tbx; have := h.to.tb_; omega
  have hbel : Below B A A2 := hm.below hB (fun b hb => (row_blk h.lrow hb).1)
  have hl : (axs ++ [x]).length = axs.length + 1 := by simp
  refine ⟨⟨h.to.mv hm (fun e => ?_) (fun k hk e => ?_) (fun b hb e => h.lnz b e hb), by rw [hl, axflat_snoc]; exact hr, fun y hy => ?_, fun g hg' hz => ?_, h.nu.trans hbel⟩, hm⟩
  · obtain ⟨_, _, cs, hc⟩ := row_blk h.lrow e
    exact (h.to.apart hc).1 rfl
  · obtain ⟨_, _, cs, hc⟩ := row_blk h.lrow e
    exact (h.to.apart hc).2 hk
  · rcases List.mem_append.1 hy with hy | hy
    · exact ⟨(h.laz y hy).1.below hbel (Nat.le_refl _), (h.laz y hy).2.below hbel (Nat.le_refl _)⟩
    · rw [List.mem_singleton.1 hy]; exact ⟨hx.1.below hbel (Nat.le_refl _), hx.2.below hbel (Nat.le_refl _)⟩
  · simp only [Value.ownBlock, Option.some.injEq] at hg'
    subst hg'
    rcases hgg with e | e
    · exact h.lnz _ e hz
    · have := (h.to.zt _ hz).1
      have := hn.size
      omega

/-- The row of arcs is done; the node stands behind the others. -/
theorem TI.node {B : Nat} {w A A0 A1 A2 : World} {tb xb : Nat} {no : Option Addr} {nc : Nat} {nodes : List Node} {nxs : List NX} {Z : Nat → Prop} {va : Option Addr} {vac : Nat} {axs : List AX} {nd : Node} {g' nc' : Nat} (h : TI B w A tb no nc nodes nxs Z va vac axs) (hnd : axs.map AX.a = nd.arcs) (hlim : (axs.length : Int) ≤ 17592186044416)
    (hm0 : Mv (· = xb) A A0) (hxb : B ≤ xb) (hxt : xb ≠ tb) (hxr : (Value.slice no nodes.length nc).ownBlock ≠ some xb) (hxl : (Value.slice va axs.length vac).ownBlock ≠ some xb) (hxz : ¬ Z xb) (hn : Nu A0 A1) (hg : A1.grownBy A2 (Value.slice no nodes.length nc).ownBlock)
    (hr : A2.ownsRow B 53 5 (.slice (some ⟨g', 0, none⟩) (nodes.length + 1) nc') (nodes.length + 1) (nxflat nxs ++ (⟨nd, axs, va, vac⟩ : NX).cells)) :
    TO B (A2.setCell ⟨tb, 0, none⟩ (.slice (some ⟨g', 0, none⟩) (nodes.length + 1) nc')) tb (some ⟨g', 0, none⟩) nc' (nodes ++ [nd]) (nxs ++ [⟨nd, axs, va, vac⟩]) (fun b => Z b ∨ (Value.slice va axs.length vac).ownBlock = some b) ∧ Below B w (A2.setCell ⟨tb, 0, none⟩ (.slice (some ⟨g', 0, none⟩) (nodes.length + 1) nc')) := by
  have hB : B ≤ A.heap.size := by have := lt_of_block h.to.tbx; have := h.to.tb_; omega
  have t0 := h.to.mv hm0 (fun e => hxt e.symm) (fun k hk e => hxr (by rw [← e]; exact hk)) (fun b hb e => hxz (by rw [← e]; exact hb))
  have t1 := t0.nu hn
  have hm2 := Mv.grown hg
  have hm3 := Mv.setCell A2 ⟨tb, 0, none⟩ (.slice (some ⟨g', 0, none⟩) (nodes.length + 1) nc')
  have hm12 : Mv (fun b => (Value.slice no nodes.length nc).ownBlock = some b ∨ b = tb) A1 (A2.setCell ⟨tb, 0, none⟩ (.slice (some ⟨g', 0, none⟩) (nodes.length + 1) nc')) := (hm2.mono (fun x hx => .inl (.inl hx))).trans hm3 (fun x hx => .inl (.inr hx))
  have hnr : ∀ b cs t, A1.heap[b]? = some (.cells cs t (0, 0)) → t ≠ 53 → t ≠ 24 → ¬ ((Value.slice no nodes.length nc).ownBlock = some b ∨ b = tb) := fun b cs t hb h1 h2 hx => by
    rcases hx with hx | hx
    · obtain ⟨_, _, cs', hc⟩ := row_blk t1.row hx
      rw [hb] at hc; simp only [Option.some.injEq, Obj.cells.injEq] at hc; exact h1 hc.2.1
    · rw [hx, t1.tbx] at hb; simp only [Option.some.injEq, Obj.cells.injEq] at hb; exact h2 hb.2.1.symm
  have hold : ∀ b, b < B → ¬ ((Value.slice no nodes.length nc).ownBlock = some b ∨ b = tb) := fun b hb hx => by
    rcases hx with hx | hx
    · have := (row_blk t1.row hx).1; omega
    · have := h.to.tb_; omega
  have hzz : ∀ b, Z b → ¬ ((Value.slice no nodes.length nc).ownBlock = some b ∨ b = tb) := fun b hb => by
    rcases (t1.zt b hb).2 with g | ⟨cs, hc⟩
    · exact hold b g
    · exact hnr b cs _ hc (by decide) (by decide)
  have hlr0 := row_mv hm0 h.lrow (fun k hk e => hxl (by rw [← e]; exact hk))
  have hlr1 := row_mv hn hlr0 (fun _ _ => id)
  have hlb : ∀ b, (Value.slice va axs.length vac).ownBlock = some b → ∃ cs, A1.heap[b]? = some (.cells cs 55 (0, 0)) := fun b hb => (row_blk hlr1 hb).2.2
  have htb2 : A2.heap[tb]? = _ := hm2.heap t1.tbx (fun e => by
    obtain ⟨_, _, cs', hc⟩ := row_blk t1.row e
    rw [t1.tbx] at hc; simp at hc)
  have hl : (nodes ++ [nd]).length = nodes.length + 1 := by simp
  have hsz12 := hm12.size
  have hsz0 := hm0.size
  have hszn := hn.size
  have hbel1 : Below B A A1 := (hm0.below hB (fun b hb => by omega)).trans (hn.nu_below.mono (by omega))
  refine ⟨⟨?_, ?_, by simp [h.to.eq], fun y hy => ?_, fun b hb => ?_, fun b hb => .inl (h.to.old b hb), h.to.tb_⟩, ?_⟩
  · rw [setCell_blk htb2, hl]; rfl
  · rw [hl, nxflat_snoc]
    exact row_mv hm3 hr (fun k hk e => by
      obtain ⟨_, _, cs, hc⟩ := row_blk hr hk
      simp only at e
      rw [e, htb2] at hc; simp at hc)
  · rcases List.mem_append.1 hy with hy | hy
    · exact (t1.nz y hy).mv hm12 hzz (fun _ hz => .inl hz)
    · rw [List.mem_singleton.1 hy]
      refine ⟨hnd, (ArcsZ.of_row (Z := fun b => Z b ∨ (Value.slice va axs.length vac).ownBlock = some b) hlr1 hlim (fun g hg' => .inr hg') (fun x hx => ?_)).mv hm12 (fun b hb => ?_) (fun _ hz => hz)⟩
      · have := h.laz x hx
        exact ⟨(this.1.below hbel1 (Nat.le_refl _)).z (fun b hb => .inl (h.to.old b hb)), (this.2.below hbel1 (Nat.le_refl _)).z (fun b hb => .inl (h.to.old b hb))⟩
      · rcases hb with hb | hb
        · exact hzz b hb
        · obtain ⟨cs, hc⟩ := hlb b hb
          exact hnr b cs _ hc (by decide) (by decide)
  · rcases hb with hb | hb
    · obtain ⟨g1, g2⟩ := t1.zt b hb
      exact ⟨by omega, g2.imp id fun ⟨cs, hc⟩ => ⟨cs, hm12.heap hc (hzz b hb)⟩⟩
    · obtain ⟨cs, hc⟩ := hlb b hb
      have := lt_of_block hc
      exact ⟨by omega, .inr ⟨cs, hm12.heap hc (hnr b cs _ hc (by decide) (by decide))⟩⟩
  · exact (h.nu.trans hbel1).trans (hm12.below (by omega) (fun b hb => by
      rcases hb with hb | hb
      · exact (row_blk t1.row hb).1
      · have := h.to.tb_; omega))

theorem TO.at {B : Nat} {A : World} {tb : Nat} {no : Option Addr} {nc : Nat} {nodes : List Node} {nxs : List NX} {Z : Nat → Prop} (h : TO B A tb no nc nodes nxs Z) (hl : (nodes.length : Int) ≤ 17592186044416) : NodesAt A A.heap.size no nodes := by
  have hlx : nxs.length = nodes.length := by rw [← h.eq, List.length_map]
  have hr := h.row
  rw [← hlx] at hr
  have := nodes_of_row (Z := Z) hr (by omega) h.nz (fun b hb => (h.zt b hb).1)
  rwa [h.eq] at this

end Go.Proofs.Ytlgljpbbooeanaa

set_option linter.unusedVariables false
set_option linter.unusedSimpArgs false
namespace Go.Proofs.Ytlgljpbbooeanaa
open Go.RowKit

theorem drop_rev {axs axs0 : List AX} {l : List Arc} (h0 : axs0.map AX.a = l) {j : Nat} (hj : j < axs0.length) (h : axs.map AX.a = (l.drop (j + 1)).reverse) : (axs ++ [axs0[j]]).map AX.a = (l.drop j).reverse := by
  have hj' : j < l.length := by rw [← h0, List.length_map]; exact hj
  rw [List.drop_eq_getElem_cons hj', List.reverse_cons, List.map_append, h]
  simp [← h0]

theorem take_turn {ns nodes : List Node} {x : Node} (h : nodes = (ns.take nodes.length).map turnX) (hx : ns[nodes.length]? = some x) : nodes ++ [turnX x] = (ns.take (nodes ++ [turnX x]).length).map turnX := by
  rw [List.length_append, List.length_singleton, List.take_add_one, hx, List.map_append, ← h]
  rfl

theorem arcs_in {x : Node} : ∀ {ns : List Node}, x ∈ ns → x.arcs.length ≤ arcsIn ns
  | [], h => absurd h (by simp)
  | y :: r, h => by
    rw [arcsIn]
    rcases List.mem_cons.1 h with rfl | h
    · omega
    · have := arcs_in h; omega
theorem may_arcs {ns : List Node} (hm : mayN ns = true) {i : Nat} {x : Node} (h : ns[i]? = some x) : x.arcs.length ≤ 262144 := by
  simp only [mayN, Bool.and_eq_true, decide_eq_true_eq] at hm
  have := arcs_in (List.mem_of_getElem? h)
  omega

theorem str_no {s t : ByteArray} (h : ¬ s = t) : ¬ s.toList = t.toList := fun e => h (by
  rw [Lib.toList_data, Lib.toList_data] at e
  cases s
  cases t
  simp only [ByteArray.mk.injEq]
  exact Array.toList_inj.1 e)

theorem TI.first {B : Nat} {w A : World} {tb : Nat} {no : Option Addr} {nc : Nat} {nodes : List Node} {nxs : List NX} {Z : Nat → Prop} (h : TO B A tb no nc nodes nxs Z) (hb : Below B w A) : TI B w A tb no nc nodes nxs Z none 0 [] :=
  ⟨h, ⟨rfl, .inl ⟨rfl, rfl⟩⟩, fun _ h => absurd h (by simp), fun g hg => absurd hg (by simp [Value.ownBlock]), hb⟩

set_option maxHeartbeats 8000000 in
set_option maxRecDepth 200000 in
theorem NetTurned_walk (HC : NCons) (w : World) {ao : Option Addr} {cap : Nat} (ns : List Node) (h : NodesAt w w.heap.size ao ns) :
    Calls Try.prog 5 #[.agg #[.slice ao ns.length cap]] w fun e w' => e = .returned (.bool true) ∧ Nu w w' := by
  have HCH : Hid NCons := HC
  have HN0 : Hid (NodesAt w w.heap.size ao ns) := h
  have hlim := h.lim
  clear HC h
  have hnil : ∀ (W : World) (T : TypeId) (r : Value), (binOp BinOp.eql 27 (.iface T r) .nilIface).run Try.prog W = .ok (.bool false) W := fun _ _ _ => by rfl
  go_enter Try.func5, Try.ntmps5
  go_wp2_with fail
  have HM1 : Hid (Nu w (w.alloc (.cells #[.slice ao ns.length cap] 24))) := Mv.alloc _ _ _
  have HB1 : Hid ((w.alloc (.cells #[.slice ao ns.length cap] 24)).cell? ⟨w.heap.size, 0, none⟩ = some (.slice ao ns.length cap)) := cell_blk (box_new w _ _) 0
  generalize w.alloc (.cells #[.slice ao ns.length cap] 24) = w1 at *
  refine (HCH.out.of w1 ao cap ns (nodes_nu HN0.out HM1.out)).mono ?_
  rintro e w2 ⟨hn2, ⟨hno, rfl⟩ | ⟨hyes, F, T, r0, rfl, hsys, hF⟩⟩
  · have HM2 : Hid (Nu w w2) := mv0 HM1.out hn2
    clear hn2 hno HB1 HM1
    go_wp2_with fail
    refine (known_any HCH.out w2).mono ?_
    rintro e w3 ⟨rfl, hn3⟩
    have HM3 : Hid (Nu w w3) := mv0 HM2.out hn3
    clear hn3
    go_wp2
    go_ret
    exact ⟨rfl, HM3.out⟩
  have HM2 : Hid (Nu w w2) := mv0 HM1.out hn2
  have d1 := cell_mv hn2 HB1.out id
  by_cases hbig : 20000 ≤ ns.length
  · have hbig' : (20000 : Int) ≤ (ns.length : Int) := by omega
    clear hn2 HB1 HM1 hsys hF hyes hbig
    go_wp2_with fail
    refine (known_any HCH.out w2).mono ?_
    rintro e w3 ⟨rfl, hn3⟩
    have HM3 : Hid (Nu w w3) := mv0 HM2.out hn3
    clear hn3
    go_wp2
    go_ret
    exact ⟨rfl, HM3.out⟩
  have hsm : ¬ (20000 : Int) ≤ (ns.length : Int) := by omega
  have HS2 : Hid (SysAt F w2 T r0 (graphSem ns)) := hsys
  have HMY : Hid (mayN ns = true ∧ ns.length < 20000) := ⟨hyes, by omega⟩
  have HN2 : Hid (NodesAt w2 w2.heap.size ao ns) := nodes_nu HN0.out HM2.out
  have hz2 : w.heap.size < w2.heap.size := World.block_lt_of_cell? w2 _ d1
  have HD1 : Hid (∀ W, Below w2.heap.size w2 W → W.cell? ⟨w.heap.size, 0, none⟩ = some (.slice ao ns.length cap)) := fun W hW => (hW.cell (p := ⟨w.heap.size, 0, none⟩) hz2).trans d1
  clear hsys hyes hF hn2 HB1 HM1 hbig
  go_upto_region 7 with fail
  have HTO0 : Hid (TO w2.heap.size (w2.alloc (.cells #[.slice none 0 0] 24)) w2.heap.size none 0 [] [] (fun b => b < w2.heap.size)) := ⟨heap_alloc_new w2 _, ⟨rfl, .inl ⟨rfl, rfl⟩⟩, rfl, fun _ h => absurd h (by simp), fun b hb => ⟨by rw [World.size_alloc]; omega, .inl hb⟩, fun b hb => hb, Nat.le_refl _⟩
  have HBE0 : Hid (Below w2.heap.size w2 (w2.alloc (.cells #[.slice none 0 0] 24))) := (Mv.alloc (fun _ => False) w2 _).nu_below
  have hsm2 : (ns.length : Int) < 20000 := by omega
  clear d1 hsm hz2
  generalize w2.alloc (.cells #[.slice none 0 0] 24) = W3 at *
  obtain ⟨tb, htb⟩ : ∃ tb, w2.heap.size = tb := ⟨_, rfl⟩
  have HTB : Hid (w2.heap.size = tb) := htb
  rw [htb] at HTO0 HBE0 HD1 HN2 ⊢
  clear htb
  go_wp2
  go_loopw [6] (fun iv wr => ∃ (no : Option Addr) (nc : Nat) (nodes : List Node) (nxs : List NX) (Z : Nat → Prop), nodes.length ≤ ns.length ∧ iv = .int .i64 (nodes.length : Int) ∧ Hid (TO tb wr tb no nc nodes nxs Z) ∧ Hid (Below tb w2 wr) ∧ Hid (nodes = (ns.take nodes.length).map turnX)) (fun iv _ => ns.length - (intOf iv).toNat)
  case atStart => exact ⟨none, 0, [], [], _, Nat.zero_le _, rfl, HTO0, HBE0, rfl⟩
  case round =>
    obtain ⟨no, nc, nodes, nxs, Z, hnl, rfl, HTO, HBE, HEQ⟩ := hrel
    clear HTO0 HBE0
    have d1 := HD1.out wr HBE.out
    rcases Nat.lt_or_ge nodes.length ns.length with hlt | hge
    case inr =>
      have hnn : nodes.length = ns.length := by omega
      have hge' : ¬ (nodes.length : Int) < (ns.length : Int) := by omega
      have HNT : Hid (nodes ++ [⟨[], 77, false, false, false⟩] = turnN ns ∧ (turnN ns).length = nodes.length + 1) := by
        have := HEQ.out
        rw [hnn, List.take_length] at this
        refine ⟨by unfold turnN; rw [← this], by rw [turnN_len, hnn]⟩
      have t0 := cell_blk HTO.out.tbx 0
      simp only [List.size_toArray, List.length_cons, List.length_nil, Nat.reduceAdd, Nat.lt_add_one, Nat.reduceLT, getElem?_pos, List.getElem_toArray, List.getElem_cons_zero, List.getElem_cons_succ, Nat.zero_lt_succ] at t0
      clear hnn hge
      go_upto_region 18 with fail
      clear hge' d1
      obtain ⟨i0, hi0, hz0, hz1, hz2⟩ := info_parts c_infoNode
      have HN5 : Hid (Nu wr (wr.alloc (.cells #[.slice none 0 0, .int .u64 77, .bool false, .bool false, .bool false] 53))) := Mv.alloc _ _ _
      have HR5 := hid (row_mv HN5.out HTO.out.row (fun _ _ => id))
      have HNB : Hid (∀ q v, ([.slice none 0 0, .int .u64 77, .bool false, .bool false, .bool false] : List Value)[q]? = some v → (wr.alloc (.cells #[.slice none 0 0, .int .u64 77, .bool false, .bool false, .bool false] 53)).cell? ((⟨wr.heap.size, 0, none⟩ : Addr).add q) = some v) := fun q v hj => by
        rw [add_block, cell_blk (heap_alloc_new wr _)]; simpa using hj
      have HBS : Hid (tb ≤ wr.heap.size) := by have := lt_of_block HTO.out.tbx; show _ ≤ _; omega
      have hnl2 : nodes.length < 20000 := by omega
      go_wp2_with (at_builtin; refine wpList_append_lies _ rfl _ _ 22 rfl tb 53 i0 (.agg #[.slice none 0 0, .int .u64 0, .bool false, .bool false, .bool false]) 5 40 Try.underlying22 hi0 hz0 hz1 hz2 rfl (by decide) _ nodes.length (nxflat nxs) rfl HR5.out ⟨wr.heap.size, 0, none⟩ 1 1 [.slice none 0 0, .int .u64 77, .bool false, .bool false, .bool false] rfl rfl HNB.out (by simp [Value.oneCell']) (by decide) (by unfold maxLen; omega) (by omega) (by have := HBS.out; simp; omega) _ rfl ?_)
      intro g2 nc2 w6 ho6 hg6 hgg _
      have hb6 := (Mv.grown hg6).heap (HN5.out.heap HTO.out.tbx id) (fun e => by
        obtain ⟨_, _, cs', hc⟩ := row_blk HTO.out.row e
        rw [HTO.out.tbx] at hc
        simp at hc)
      have s0 := cell_blk hb6 0
      have s1 := free_blk hb6 0
      simp only [List.size_toArray, List.length_cons, List.length_nil, Nat.reduceAdd, Nat.lt_add_one, Nat.reduceLT, getElem?_pos, List.getElem_toArray, List.getElem_cons_zero, List.getElem_cons_succ, Nat.zero_lt_succ] at s0
      have htbl := lt_of_block HTO.out.tbx
      have HEND := hid (TI.node (xb := wr.heap.size) (nd := ⟨[], 77, false, false, false⟩) (TI.first HTO.out HBE.out) rfl (by decide) (Mv.refl (· = wr.heap.size) wr) HBS.out (by omega) (fun e => by have := (row_blk HTO.out.row e).2.1; omega) (by simp [Value.ownBlock]) (fun e => by have := (HTO.out.zt _ e).1; omega) HN5.out hg6 ho6)
      clear hb6 ho6 hg6 hgg t0 htbl HNB HR5 HN5 HTO HBE HEQ
      go_upto_region 19 with fail
      clear s0 s1
      generalize w6.setCell ⟨tb, 0, none⟩ (.slice (some ⟨g2, 0, none⟩) (nodes.length + 1) nc2) = A at *
      have s0 := cell_blk HEND.out.1.tbx 0
      rw [show (nodes ++ [(⟨[], 77, false, false, false⟩ : Node)]).length = nodes.length + 1 by simp] at s0
      simp only [List.size_toArray, List.length_cons, List.length_nil, Nat.reduceAdd, Nat.lt_add_one, Nat.reduceLT, getElem?_pos, List.getElem_toArray, List.getElem_cons_zero, List.getElem_cons_succ, Nat.zero_lt_succ] at s0
      have HOF := hid (HCH.out.of A (some ⟨g2, 0, none⟩) nc2 (turnN ns) (by
        have := HEND.out.1.at (by simp; omega)
        rwa [HNT.out.1] at this))
      rw [HNT.out.2] at HOF
      go_wp2_with fail
      refine HOF.out.mono ?_
      rintro e w7 ⟨hn7, ⟨hno, _⟩ | ⟨_, F', T', r0', rfl, hsys', _⟩⟩
      · rw [may_turn HMY.out.1 HMY.out.2] at hno; cases hno
      have HS7 : Hid (SysAt F' w7 T' r0' (graphSem (turnN ns))) := hsys'
      have HBE7 : Hid (Below tb w2 w7) := HEND.out.2.trans (hn7.nu_below.mono (by have := lt_of_block HEND.out.1.tbx; omega))
      have HS1 : Hid (SysAt F w7 T r0 (graphSem ns)) := HS2.out.keep ⟨HBE7.out.size, fun x hx => HBE7.out.block x (by have := HS2.out.lt x hx; have := HTB.out; omega)⟩
      obtain ⟨gs, ss, he, _, _, _, _, hl4, _⟩ := again_of HMY.out.1
      obtain ⟨ks, bs, hek, _, _, _, _, hl5, _⟩ := again_of (may_turn HMY.out.1 HMY.out.2)
      obtain ⟨e1, e2, e3, e4⟩ := turn_same HMY.out.1 HMY.out.2 he hek
      have HPL : Hid (explored (graphSem ns) 20000 = some (gs, ss) ∧ explored (graphSem (turnN ns)) 20000 = some (ks, bs)) := ⟨he, hek⟩
      have HSM : Hid _ := e4
      have hl4' : (ss.length : Int) ≤ 20000 := by omega
      have HLN : Hid (gs.length = ss.length ∧ bs.length = ss.length ∧ ks.length = ss.length) := ⟨e3, e1.symm, by omega⟩
      clear hsys' hn7 HOF HEND s0 he hek e1 e2 e3 e4 HS2 HNT
      go_wp2_with fail
      refine (HCH.out.expl w7 F T r0 _ 20000 HS1.out (graph_fine _ (may_parts HMY.out.1).2.1 HMY.out.1) (by unfold I64; decide)).mono ?_
      rintro e w8 ⟨hn8, na, nc8, sa, sc, gs8, ss8, code, rfl, hgs, hss, (⟨h, _⟩ | ⟨_, _, h, _⟩ | ⟨_, _, h, rfl⟩)⟩
      · omega
      · rw [show (20000 : Int).toNat = 20000 from rfl, HPL.out.1] at h; cases h
      rw [show (20000 : Int).toNat = 20000 from rfl, HPL.out.1] at h
      obtain ⟨rfl, rfl⟩ : gs = gs8 ∧ ss = ss8 := by simpa using h
      clear h HS1
      have HS8 : Hid (SysAt F' w8 T' r0' (graphSem (turnN ns))) := HS7.out.nu hn8
      have HG8 : Hid (NodesAt w8 w8.heap.size na gs ∧ StrsAt w8 w8.heap.size sa ss) := ⟨hgs, hss⟩
      have HBE8 : Hid (Below tb w2 w8 ∧ tb ≤ w8.heap.size) := ⟨HBE7.out.trans (hn8.nu_below.mono (by have := HBE7.out.size; have := HTB.out; omega)), by have := HBE7.out.size; have := HTB.out; have := hn8.size; omega⟩
      clear hgs hss hn8 HS7 HBE7
      rw [HLN.out.1]
      go_upto_region 23 with fail
      have HN9 : Hid (Nu w8 (w8.alloc (.cells #[.slice na ss.length nc8] 24))) := Mv.alloc _ _ _
      have HB9 : Hid ((w8.alloc (.cells #[.slice na ss.length nc8] 24)).cell? ⟨w8.heap.size, 0, none⟩ = some (.slice na ss.length nc8)) := cell_blk (box_new w8 _ _) 0
      generalize w8.alloc (.cells #[.slice na ss.length nc8] 24) = w9 at *
      have HS9 : Hid (SysAt F' w9 T' r0' (graphSem (turnN ns))) := HS8.out.nu HN9.out
      go_wp2_with fail
      refine (HCH.out.expl w9 F' T' r0' _ 20000 HS9.out (graph_fine _ (may_parts (may_turn HMY.out.1 HMY.out.2)).2.1 (may_turn HMY.out.1 HMY.out.2)) (by unfold I64; decide)).mono ?_
      rintro e wa ⟨hna, ka, kc, ba, bc, ks8, bs8, code, rfl, hks, hbs, (⟨h, _⟩ | ⟨_, _, h, _⟩ | ⟨_, _, h, rfl⟩)⟩
      · omega
      · rw [show (20000 : Int).toNat = 20000 from rfl, HPL.out.2] at h; cases h
      rw [show (20000 : Int).toNat = 20000 from rfl, HPL.out.2] at h
      obtain ⟨rfl, rfl⟩ : ks = ks8 ∧ bs = bs8 := by simpa using h
      clear h HS9 HS8
      have HNA : Hid (Nu w8 wa) := mv0 HN9.out hna
      have HBA : Hid (wa.cell? ⟨w8.heap.size, 0, none⟩ = some (.slice na ss.length nc8)) := cell_mv hna HB9.out id
      have HKA : Hid (NodesAt wa wa.heap.size ka ks ∧ StrsAt wa wa.heap.size ba bs) := ⟨hks, hbs⟩
      clear hks hbs hna HN9 HB9
      rw [HLN.out.2.1, HLN.out.2.2]
      go_upto_region 24 with fail
      have HNB : Hid (Nu wa (wa.alloc (.cells #[.slice ka ss.length kc] 24))) := Mv.alloc _ _ _
      have HBB : Hid ((wa.alloc (.cells #[.slice ka ss.length kc] 24)).cell? ⟨wa.heap.size, 0, none⟩ = some (.slice ka ss.length kc)) := cell_blk (box_new wa _ _) 0
      generalize wa.alloc (.cells #[.slice ka ss.length kc] 24) = wb at *
      have d2 := cell_mv HNB.out HBA.out id
      have d3 := HBB.out
      go_upto_region 26 with fail
      have HNW : Hid (Nu w wb) := by
        have hb := HBE8.out.1
        rw [← HTB.out] at hb
        exact mv0 HM2.out (mv0 (Nu.of_below hb) (mv0 HNA.out HNB.out))
      have HRD : Hid (NodesAt wb wb.heap.size na gs ∧ StrsAt wb wb.heap.size sa ss ∧ NodesAt wb wb.heap.size ka ks ∧ StrsAt wb wb.heap.size ba bs) := by
        have m1 := mv0 HNA.out HNB.out
        exact ⟨HG8.out.1.below m1.nu_below m1.size, HG8.out.2.below m1.nu_below m1.size, HKA.out.1.below HNB.out.nu_below HNB.out.size, HKA.out.2.below HNB.out.nu_below HNB.out.size⟩
      have HDD : Hid (wb.cell? ⟨w8.heap.size, 0, none⟩ = some (.slice na ss.length nc8) ∧ wb.cell? ⟨wa.heap.size, 0, none⟩ = some (.slice ka ss.length kc)) := ⟨d2, d3⟩
      clear d2 d3 HBE8 HNA HNB HG8 HKA HBA HBB HM2
      generalize w8.heap.size = gb at *
      generalize wa.heap.size = kb at *
      go_wp2
      go_loopw [18] (fun jv wr => ∃ (j : Nat), j ≤ ss.length ∧ jv = .int .i64 (j : Int) ∧ Hid (Nu wb wr)) (fun jv _ => ss.length - (intOf jv).toNat)
      case atStart => exact ⟨0, Nat.zero_le _, rfl, Mv.refl _ _⟩
      case round =>
        rename World => wj
        obtain ⟨j, hj, rfl, HNJ⟩ := hrel
        rcases Nat.lt_or_ge j ss.length with hjl | hjg
        case inr =>
          have hjg' : ¬ (j : Int) < (ss.length : Int) := by omega
          go_wp2_with fail
          refine (known_any HCH.out wj).mono ?_
          rintro e wc ⟨rfl, hnc⟩
          have HEN : Hid (Nu w wc) := mv0 (mv0 HNW.out HNJ.out) hnc
          clear hnc
          go_wp2
          go_ret
          exact ⟨rfl, HEN.out⟩
        have hjl' : (j : Int) < (ss.length : Int) := by omega
        rcases Nat.lt_or_ge j 300 with hj3 | hj3
        case inr =>
          have hj3' : ¬ (j : Int) < 300 := by omega
          go_wp2_with fail
          refine (known_any HCH.out wj).mono ?_
          rintro e wc ⟨rfl, hnc⟩
          have HEN : Hid (Nu w wc) := mv0 (mv0 HNW.out HNJ.out) hnc
          clear hnc
          go_wp2
          go_ret
          exact ⟨rfl, HEN.out⟩
        have hj3' : (j : Int) < 300 := by omega
        have HJL : Hid (j < ss.length ∧ j < gs.length) := ⟨hjl, by have := HLN.out.1; omega⟩
        obtain ⟨i0, hi0, hk0, hsm0⟩ := HSM.out j HJL.out.1 HJL.out.2
        have HI0 : Hid (i0 < ss.length) := by have := HLN.out.2.1; show _ < _; omega
        have HSM0 : Hid (bs[i0] = ss[j]'HJL.out.1 ∧ (gs[j]'HJL.out.2).arcs.length = ks[i0].arcs.length ∧ (gs[j]'HJL.out.2).props = ks[i0].props) := hsm0
        clear hjl hj3
        go_upto_region 30 with fail
        clear hjl' hj3'
        go_wp2
        go_loopw [19, 20] (fun tv mv wr => ∃ (m : Nat) (mt : Bool), m ≤ ss.length ∧ mv = .int .i64 (m : Int) ∧ tv = .bool mt ∧ Hid (i0 < m → mt = true) ∧ Hid (Nu wb wr)) (fun _ mv _ => ss.length - (intOf mv).toNat)
        case atStart => exact ⟨0, false, Nat.zero_le _, rfl, rfl, fun h => absurd h (by omega), HNJ⟩
        case round =>
          rename World => wm
          obtain ⟨m, mt, hm, rfl, rfl, HMT, HNM⟩ := hrel
          rcases Nat.lt_or_ge m ss.length with hml | hmg
          case inr =>
            obtain rfl : m = ss.length := by omega
            rw [HMT.out HI0.out]
            go_wp2
            go_roundw
            case rel => exact ⟨j + 1, HJL.out.1, by go_num, HNM⟩
            case measure => have := HJL.out.1; simp [intOf]; omega
          have hml' : (m : Int) < (ss.length : Int) := by omega
          have HML : Hid (m < ss.length) := hml
          cases mt with
          | true =>
            clear hml
            go_wp2
            go_quiet (fail)
            go_wp2
            go_roundw
            case rel => exact ⟨m + 1, true, HML.out, by go_num, rfl, fun _ => rfl, mv0 HNM.out (nu_drewN _ _)⟩
            case measure => have := HML.out; simp [intOf]; omega
          | false =>
            have HNI : Hid (¬ i0 < m) := fun h => absurd (HMT.out h) (by simp)
            have HMB : Hid (m < bs.length ∧ m < ks.length) := ⟨by have := HLN.out.2.1; omega, by have := HLN.out.2.2; omega⟩
            have hjl' : (j : Int) < (ss.length : Int) := by have := HJL.out.1; omega
            rcases HRD.out.1.row with h0 | ⟨b1, o1, rfl, _, hit1⟩
            · have := HJL.out.2; omega
            rcases HRD.out.2.1.row with h0 | ⟨b2, o2, rfl, _, hit2⟩
            · have := HJL.out.1; omega
            rcases HRD.out.2.2.1.row with h0 | ⟨b3, o3, rfl, _, hit3⟩
            · have := HMB.out.2; omega
            rcases HRD.out.2.2.2.row with h0 | ⟨b4, o4, rfl, _, hit4⟩
            · have := HMB.out.1; omega
            obtain ⟨x, HX, hx⟩ : ∃ x, Hid (gs[j]'HJL.out.2 = x) ∧ NodeAt wb wb.heap.size b1 (o1 + j * 5) x := ⟨_, rfl, hit1 j HJL.out.2⟩
            obtain ⟨y, HY, hy⟩ : ∃ y, Hid (ks[m]'HMB.out.2 = y) ∧ NodeAt wb wb.heap.size b3 (o3 + m * 5) y := ⟨_, rfl, hit3 m HMB.out.2⟩
            obtain ⟨s, HS, c2⟩ : ∃ s, Hid (ss[j]'HJL.out.1 = s) ∧ wb.cell? ⟨b2, o2 + j, none⟩ = some (.string s) := ⟨_, rfl, hit2 j HJL.out.1⟩
            obtain ⟨t, HT, c4⟩ : ∃ s, Hid (bs[m]'HMB.out.1 = s) ∧ wb.cell? ⟨b4, o4 + m, none⟩ = some (.string s) := ⟨_, rfl, hit4 m HMB.out.1⟩
            obtain ⟨_, x0, xo, xc, rfl, hxa⟩ := hx.c0
            obtain ⟨_, y0, yo, yc, rfl, hya⟩ := hy.c0
            have hxl := hxa.lim
            have hyl := hya.lim
            have x0 := cell_mv HNM.out x0 id
            have y0 := cell_mv HNM.out y0 id
            have x1 := cell_mv HNM.out hx.c1 id
            have y1 := cell_mv HNM.out hy.c1 id
            replace c2 := cell_mv HNM.out c2 id
            replace c4 := cell_mv HNM.out c4 id
            have d2 := cell_mv HNM.out HDD.out.1 id
            have d3 := cell_mv HNM.out HDD.out.2 id
            have HQ : Hid (¬ (t = s ∧ x.arcs.length = y.arcs.length ∧ x.props = y.props) → ¬ i0 < m + 1) := fun hn hlt => by
              have hi : i0 = m := by have := HNI.out; omega
              subst hi
              have := HSM0.out
              rw [HX.out, HY.out, HS.out, HT.out] at this
              exact hn this
            clear hit1 hit2 hit3 hit4 hx hy hxa hya hml
            by_cases h1 : s = t
            case neg =>
              have HO : Hid (¬ i0 < m + 1) := HQ.out (fun h => h1 h.1.symm)
              have h1c := str_no h1
              have h1b : (s.toList == t.toList) = false := beq_eq_false_iff_ne.2 h1c
              go_wp2
              go_quiet (fail)
              go_wp2
              go_roundw
              case rel => exact ⟨m + 1, false, HML.out, by go_num, rfl, fun h => absurd h HO.out, mv0 HNM.out (nu_drewN _ _)⟩
              case measure => have := HML.out; simp [intOf]; omega
            subst h1
            by_cases h2 : x.arcs.length = y.arcs.length
            case neg =>
              have HO : Hid (¬ i0 < m + 1) := HQ.out (fun h => h2 h.2.1)
              have h2' : ¬ (x.arcs.length : Int) = (y.arcs.length : Int) := by omega
              go_wp2
              go_quiet (fail)
              go_wp2
              go_roundw
              case rel => exact ⟨m + 1, false, HML.out, by go_num, rfl, fun h => absurd h HO.out, mv0 HNM.out (nu_drewN _ _)⟩
              case measure => have := HML.out; simp [intOf]; omega
            rw [← h2] at y0
            by_cases h3 : x.props = y.props
            case neg =>
              have HO : Hid (¬ i0 < m + 1) := HQ.out (fun h => h3 h.2.2)
              clear h2
              go_wp2
              go_quiet (fail)
              go_wp2
              go_roundw
              case rel => exact ⟨m + 1, false, HML.out, by go_num, by rw [beq_eq_false_iff_ne.2 h3], fun h => absurd h HO.out, mv0 HNM.out (nu_drewN _ _)⟩
              case measure => have := HML.out; simp [intOf]; omega
            rw [← h3] at y1
            clear h2 h3
            go_wp2
            go_quiet (fail)
            go_wp2
            go_roundw
            case rel => exact ⟨m + 1, true, HML.out, by go_num, rfl, fun _ => rfl, mv0 HNM.out (nu_drewN _ _)⟩
            case measure => have := HML.out; simp [intOf]; omega
    have hlt' : (nodes.length : Int) < (ns.length : Int) := by omega
    have HLT : Hid (nodes.length < ns.length) := hlt
    rcases HN2.out.row with h0 | ⟨b, off, rfl, hbB, hit⟩
    · omega
    obtain ⟨x, HE, hx⟩ : ∃ x, Hid (ns[nodes.length]? = some x) ∧ NodeAt w2 tb b (off + nodes.length * 5) x := ⟨_, List.getElem?_eq_getElem hlt, hit _ hlt⟩
    have hxr := hx.below HBE.out (Nat.le_refl _) hbB
    obtain ⟨_, c0, xo, xc, rfl, hxa⟩ := hx.c0
    have c0 := (HBE.out.cell (p := ⟨b, off + nodes.length * 5, none⟩) hbB).trans c0
    have c1 := hxr.c1
    have c2 := hxr.c2
    have c3 := hxr.c3
    have c4 := hxr.c4
    have hal : x.arcs.length ≤ 262144 := may_arcs HMY.out.1 HE.out
    obtain ⟨axs0, hax0, hax1, hxo⟩ := hxa.axs
    have HAX : Hid (axs0.map AX.a = x.arcs ∧ axs0.length = x.arcs.length ∧ ArcsO w2 tb xo axs0) := ⟨hax0, hax1, hxo⟩
    clear hit hx hxr hxa hax0 hax1 hxo hlt
    go_upto_region 12 with fail
    have HN3 : Hid (Nu wr (wr.alloc (.cells #[.slice xo x.arcs.length xc, .int .u64 x.props, .bool x.en, .bool x.pr, .bool x.ac] 53))) := Mv.alloc _ _ _
    have HB3 : Hid ((wr.alloc (.cells #[.slice xo x.arcs.length xc, .int .u64 x.props, .bool x.en, .bool x.pr, .bool x.ac] 53)).heap[wr.heap.size]? = some (.cells #[.slice xo x.arcs.length xc, .int .u64 x.props, .bool x.en, .bool x.pr, .bool x.ac] 53 (0, 0))) := heap_alloc_new wr _
    generalize wr.alloc (.cells #[.slice xo x.arcs.length xc, .int .u64 x.props, .bool x.en, .bool x.pr, .bool x.ac] 53) = w3 at *
    have htbl := lt_of_block HTO.out.tbx
    have HXB : Hid (tb ≤ wr.heap.size ∧ wr.heap.size ≠ tb ∧ (Value.slice no nodes.length nc).ownBlock ≠ some wr.heap.size ∧ ¬ Z wr.heap.size) := ⟨by omega, by omega, fun e => by have := (row_blk HTO.out.row e).2.1; omega, fun e => by have := (HTO.out.zt _ e).1; omega⟩
    have HTI0 : Hid (TI tb w2 w3 tb no nc nodes nxs Z none 0 []) := TI.first (HTO.out.nu HN3.out) (HBE.out.trans (HN3.out.nu_below.mono (by omega)))
    obtain ⟨xb, hxb⟩ : ∃ xb, wr.heap.size = xb := ⟨_, rfl⟩
    rw [hxb] at HB3 HXB ⊢
    clear hxb htbl d1 c0 c1 c2 c3 c4 HN3 HTO HBE
    obtain ⟨p0, p1, p2, p3, p4⟩ := cells5 HB3.out
    go_wp2
    go_loopw [8, 9] (fun lv kv wk => ∃ (k : Nat) (va : Option Addr) (vac : Nat) (axs : List AX), k ≤ x.arcs.length ∧ kv = .int .i64 ((k : Int) - 1) ∧ lv = .slice va axs.length vac ∧ Hid (axs.map AX.a = (x.arcs.drop k).reverse) ∧ Hid (TI tb w2 wk tb no nc nodes nxs Z va vac axs) ∧ Hid (wk.heap[xb]? = some (.cells #[.slice xo x.arcs.length xc, .int .u64 x.props, .bool x.en, .bool x.pr, .bool x.ac] 53 (0, 0)))) (fun _ kv _ => (intOf kv + 1).toNat)
    case atStart => exact ⟨x.arcs.length, none, 0, [], Nat.le_refl _, rfl, rfl, by show _ = _; simp, HTI0, HB3⟩
    case round =>
      rename World => wk
      obtain ⟨k, va, vac, axs, hk, rfl, rfl, HAE, HTI, HBX⟩ := hrel
      clear HTI0 HB3 p0 p1 p2 p3 p4
      have hxl : axs.length ≤ x.arcs.length := by
        have := congrArg List.length HAE.out
        simp at this
        omega
      obtain ⟨p0, p1, p2, p3, p4⟩ := cells5 HBX.out
      rcases Nat.eq_zero_or_pos k with rfl | hpos
      case inl =>
        rw [show ((0 : Nat) : Int) - 1 = -1 from rfl]
        have f0 := free_blk HBX.out 0
        go_upto_region 17 with fail
        have HM0 : Hid (Mv (· = xb) wk (wk.setCell ⟨xb, 0, none⟩ (.slice va axs.length vac))) := Mv.setCell wk ⟨xb, 0, none⟩ _
        have HB4 : Hid ((wk.setCell ⟨xb, 0, none⟩ (.slice va axs.length vac)).heap[xb]? = some (.cells #[.slice va axs.length vac, .int .u64 x.props, .bool x.en, .bool x.pr, .bool x.ac] 53 (0, 0))) := setCell_blk HBX.out
        generalize wk.setCell ⟨xb, 0, none⟩ (.slice va axs.length vac) = A0 at *
        clear p0 p1 p2 p3 p4 f0
        have HT4 : Hid (TO tb A0 tb no nc nodes nxs Z) := HTI.out.to.mv HM0.out (fun e => HXB.out.2.1 e.symm) (fun k hk e => HXB.out.2.2.1 (by rw [← e]; exact hk)) (fun b hb e => HXB.out.2.2.2 (by rw [← e]; exact hb))
        obtain ⟨q0, q1, q2, q3, q4⟩ := cells5 HB4.out
        have t0 := cell_blk HT4.out.tbx 0
        simp only [List.size_toArray, List.length_cons, List.length_nil, Nat.reduceAdd, Nat.lt_add_one, Nat.reduceLT, getElem?_pos, List.getElem_toArray, List.getElem_cons_zero, List.getElem_cons_succ, Nat.zero_lt_succ] at t0
        obtain ⟨i0, hi0, hz0, hz1, hz2⟩ := info_parts c_infoNode
        have HN5 : Hid (Nu A0 (A0.alloc (.cells #[.slice va axs.length vac, .int .u64 x.props, .bool x.en, .bool x.pr, .bool x.ac] 53))) := Mv.alloc _ _ _
        have HR5 := hid (row_mv HN5.out HT4.out.row (fun _ _ => id))
        have HNB : Hid (∀ q v, ([.slice va axs.length vac, .int .u64 x.props, .bool x.en, .bool x.pr, .bool x.ac] : List Value)[q]? = some v → (A0.alloc (.cells #[.slice va axs.length vac, .int .u64 x.props, .bool x.en, .bool x.pr, .bool x.ac] 53)).cell? ((⟨A0.heap.size, 0, none⟩ : Addr).add q) = some v) := fun q v hj => by
          rw [add_block, cell_blk (heap_alloc_new A0 _)]; simpa using hj
        have HBS : Hid (tb ≤ A0.heap.size) := by have := lt_of_block HT4.out.tbx; show _ ≤ _; omega
        have hnl2 : nodes.length < 20000 := by omega
        go_wp2_with (at_builtin; refine wpList_append_lies _ rfl _ _ 22 rfl tb 53 i0 (.agg #[.slice none 0 0, .int .u64 0, .bool false, .bool false, .bool false]) 5 40 Try.underlying22 hi0 hz0 hz1 hz2 rfl (by decide) _ nodes.length (nxflat nxs) rfl HR5.out ⟨A0.heap.size, 0, none⟩ 1 1 [.slice va axs.length vac, .int .u64 x.props, .bool x.en, .bool x.pr, .bool x.ac] rfl rfl HNB.out (by simp [Value.oneCell']) (by decide) (by unfold maxLen; omega) (by omega) (by have := HBS.out; simp; omega) _ rfl ?_)
        intro g2 nc2 w6 ho6 hg6 hgg _
        have hb6 := (Mv.grown hg6).heap (HN5.out.heap HT4.out.tbx id) (fun e => by
          obtain ⟨_, _, cs', hc⟩ := row_blk HT4.out.row e
          rw [HT4.out.tbx] at hc
          simp at hc)
        have s0 := cell_blk hb6 0
        have s1 := free_blk hb6 0
        simp only [List.size_toArray, List.length_cons, List.length_nil, Nat.reduceAdd, Nat.lt_add_one, Nat.reduceLT, getElem?_pos, List.getElem_toArray, List.getElem_cons_zero, List.getElem_cons_succ, Nat.zero_lt_succ] at s0
        have HEND := hid (TI.node (nd := turnX x) HTI.out (by rw [HAE.out]; rfl) (by omega) HM0.out HXB.out.1 HXB.out.2.1 HXB.out.2.2.1 (fun e => by
          obtain ⟨_, _, cs', hc⟩ := row_blk HTI.out.lrow e
          rw [HBX.out] at hc
          simp at hc) HXB.out.2.2.2 HN5.out hg6 ho6)
        have hlen : (nodes ++ [turnX x]).length = nodes.length + 1 := by simp
        clear hb6 ho6 hg6 hgg q0 q1 q2 q3 q4 t0
        go_wp2
        go_roundw
        case rel => exact ⟨some ⟨g2, 0, none⟩, nc2, nodes ++ [turnX x], _, _, by rw [hlen]; exact HLT.out, by rw [hlen]; go_num, HEND.out.1, HEND.out.2, take_turn HEQ.out HE.out⟩
        case measure => have := HLT.out; simp [intOf]; omega
      obtain ⟨j, rfl⟩ : ∃ j, k = j + 1 := ⟨k - 1, by omega⟩
      rw [show ((j + 1 : Nat) : Int) - 1 = (j : Int) by omega]
      have hj : j < axs0.length := by have := HAX.out.2.1; omega
      have hj0 : (0 : Int) ≤ (j : Int) := by omega
      have hjl : (j : Int) < (x.arcs.length : Int) := by omega
      rcases (HAX.out.2.2.below HTI.out.nu (Nat.le_refl _)).row with h0 | ⟨ab, aoff, rfl, hab, hat⟩
      · omega
      obtain ⟨y, HY, hy⟩ : ∃ y, Hid (axs0[j]'hj = y) ∧ AXAt wk ab (aoff + j * 6) y := ⟨_, rfl, hat j hj⟩
      have HYR : Hid (IntsAt wk tb y.ra y.a.reads ∧ IntsAt wk tb y.wa y.a.writes) := (HAX.out.2.2.below HTI.out.nu (Nat.le_refl _)).rd y (by rw [← HY.out]; exact List.getElem_mem hj)
      have HAE2 : Hid ((axs ++ [y]).map AX.a = (x.arcs.drop j).reverse) := by rw [← HY.out]; exact drop_rev HAX.out.1 hj HAE.out
      have y0 := hy.c0
      have y1 := hy.c1
      have y2 := hy.c2
      have y3 := hy.c3
      have y4 := hy.c4
      have y5 := hy.c5
      have HJ : Hid (j + 1 ≤ x.arcs.length) := hk
      clear hy hat HY hj hpos
      obtain ⟨i0, hi, hz0, hz1, hz2⟩ := info_parts c_infoArc
      have HNX : Hid (Nu wk (wk.alloc (.cells #[.int .i64 y.a.proc, .int .i64 y.a.to, .int .i64 y.a.bad, .slice y.ra y.a.reads.length y.rc, .slice y.wa y.a.writes.length y.wc, .int .u64 y.a.turns] 55))) := Mv.alloc _ _ _
      have HNB : Hid (∀ q v, ([.int .i64 y.a.proc, .int .i64 y.a.to, .int .i64 y.a.bad, .slice y.ra y.a.reads.length y.rc, .slice y.wa y.a.writes.length y.wc, .int .u64 y.a.turns] : List Value)[q]? = some v → (wk.alloc (.cells #[.int .i64 y.a.proc, .int .i64 y.a.to, .int .i64 y.a.bad, .slice y.ra y.a.reads.length y.rc, .slice y.wa y.a.writes.length y.wc, .int .u64 y.a.turns] 55)).cell? ((⟨wk.heap.size, 0, none⟩ : Addr).add q) = some v) := fun q v hj => by
        rw [add_block, cell_blk (heap_alloc_new wk _)]; simpa using hj
      have HRW := hid (row_mv HNX.out HTI.out.lrow (fun _ _ => id))
      have HBS : Hid (tb ≤ wk.heap.size) := by have := lt_of_block HTI.out.to.tbx; show _ ≤ _; omega
      go_upto_region 15 with fail
      clear hj0
      go_wp2_with (at_builtin; refine wpList_append_lies _ rfl _ _ 51 rfl tb 55 i0 (.agg #[.int .i64 0, .int .i64 0, .int .i64 0, .slice none 0 0, .slice none 0 0, .int .u64 0]) 6 80 Try.underlying51 hi hz0 hz1 hz2 rfl (by decide) _ axs.length (axflat axs) rfl HRW.out ⟨wk.heap.size, 0, none⟩ 1 1 [.int .i64 y.a.proc, .int .i64 y.a.to, .int .i64 y.a.bad, .slice y.ra y.a.reads.length y.rc, .slice y.wa y.a.writes.length y.wc, .int .u64 y.a.turns] rfl rfl HNB.out (by simp [Value.oneCell']) (by decide) (by unfold maxLen; omega) (by omega) (by have := HBS.out; simp; omega) _ rfl ?_)
      intro g2 vac2 w9 ho9 hg9 hgg _
      have HBX2 := hid ((Mv.grown hg9).heap (HNX.out.heap HBX.out id) (fun e => by
        obtain ⟨_, _, cs', hc⟩ := row_blk HTI.out.lrow e
        rw [HBX.out] at hc
        simp at hc))
      have HTI2 := hid (HTI.out.arc (x := y) HNX.out hg9 ho9 (hgg.imp id (fun h => h.trans (World.size_alloc _ _).symm)) HYR.out).1
      have hlen : (axs ++ [y]).length = axs.length + 1 := by simp
      clear ho9 hg9 hgg HNB HRW y0 y1 y2 y3 y4 y5 p0 p1 p2 p3 p4
      go_wp2
      go_roundw
      case rel => exact ⟨j, some ⟨g2, 0, none⟩, vac2, axs ++ [y], by have := HJ.out; omega, by go_num, by rw [hlen], HAE2, HTI2, HBX2⟩
      case measure => simp [intOf]

end Go.Proofs.Ytlgljpbbooeanaa
