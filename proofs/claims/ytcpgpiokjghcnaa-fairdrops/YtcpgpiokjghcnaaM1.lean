/-
  NPlain.
-/
/-
  Graphs, moves, systems as plain data, and what is reached in a system: nothing of the program's text.
-/
namespace Go.Proofs.Ytcpgpiokjghcnaa

structure Arc where
  proc : Int
  to : Int
  bad : Int
  reads : List Int
  writes : List Int
  turns : Int
  deriving DecidableEq

structure Node where
  arcs : List Arc
  props : Int
  en : Bool
  pr : Bool
  ac : Bool
  deriving DecidableEq

structure Mov where
  proc : Int
  edge : Int
  wth : Int
  wedge : Int
  to : ByteArray
  bad : Int
  reads : List Int
  writes : List Int
  turns : Int

structure Sight where
  props : Int
  en : Bool
  pr : Bool
  ac : Bool
  deriving DecidableEq

/-- A system: its first state, the moves from each state, what is seen there. -/
structure Sem where
  begin : ByteArray
  next : ByteArray → List Mov
  look : ByteArray → Sight

/-- The place of a text in a list. -/
def plc : List ByteArray → ByteArray → Option Nat
  | [], _ => none
  | x :: r, s => if x = s then some 0 else (plc r s).map (· + 1)

theorem plc_none {l : List ByteArray} {s : ByteArray} : plc l s = none ↔ s ∉ l := by
  induction l with
  | nil => simp [plc]
  | cons x r ih =>
    unfold plc
    by_cases h : x = s
    · simp [h]
    · rw [if_neg h, Option.map_eq_none_iff, ih, List.mem_cons]
      exact ⟨fun hn ho => ho.elim (fun e => h e.symm) hn, fun hn ho => hn (.inr ho)⟩

theorem plc_some {l : List ByteArray} {s : ByteArray} {k : Nat} (h : plc l s = some k) : l[k]? = some s ∧ k < l.length := by
  induction l generalizing k with
  | nil => simp [plc] at h
  | cons x r ih =>
    unfold plc at h
    by_cases hx : x = s
    · rw [if_pos hx] at h
      obtain rfl : 0 = k := Option.some.inj h
      exact ⟨by simp [hx], by simp⟩
    · rw [if_neg hx] at h
      obtain ⟨j, hj, rfl⟩ := Option.map_eq_some_iff.1 h
      obtain ⟨h1, h2⟩ := ih hj
      exact ⟨by simpa using h1, by simpa using h2⟩

theorem plc_append {l : List ByteArray} {s t : ByteArray} {k : Nat} (h : plc l s = some k) : plc (l ++ [t]) s = some k := by
  induction l generalizing k with
  | nil => simp [plc] at h
  | cons x r ih =>
    rw [List.cons_append]
    unfold plc at h ⊢
    by_cases hx : x = s
    · rw [if_pos hx] at h ⊢; exact h
    · rw [if_neg hx] at h ⊢
      obtain ⟨j, hj, rfl⟩ := Option.map_eq_some_iff.1 h
      rw [ih hj]; rfl

theorem plc_new {l : List ByteArray} {s : ByteArray} (h : s ∉ l) : plc (l ++ [s]) s = some l.length := by
  induction l with
  | nil => simp [plc]
  | cons x r ih =>
    obtain ⟨h1, h2⟩ := not_or.1 (fun e => h (List.mem_cons.2 e))
    rw [List.cons_append]
    unfold plc
    rw [if_neg (fun e => h1 e.symm), ih h2]
    rfl

theorem plc_other {l : List ByteArray} {s t : ByteArray} (h : t ≠ s) : plc (l ++ [t]) s = plc l s := by
  cases hp : plc l s with
  | some k => exact plc_append hp
  | none =>
    rw [plc_none] at hp ⊢
    simp only [List.mem_append, List.mem_singleton, not_or]
    exact ⟨hp, fun e => h e.symm⟩

/-- What is made of one move: the states behind it, and its arc. -/
def arcOf (m : Mov) (to : Nat) : Arc := ⟨m.proc, to, m.bad, m.reads, m.writes, m.turns⟩

/-- What is under way: the states that are met, how many moves there were, the arcs of the state that is looked at. -/
structure Und where
  states : List ByteArray
  cnt : Nat
  arcs : List Arc

/-- One move; none: there are too many. -/
def oneMove (most : Nat) (u : Und) (m : Mov) : Option Und :=
  if m.bad = 0 then
    match plc u.states m.to with
    | some k => if 262144 < u.cnt + 1 then none else some ⟨u.states, u.cnt + 1, u.arcs ++ [arcOf m k]⟩
    | none => if u.states.length = most then none else if 262144 < u.cnt + 1 then none else some ⟨u.states ++ [m.to], u.cnt + 1, u.arcs ++ [arcOf m u.states.length]⟩
  else if 262144 < u.cnt + 1 then none else some ⟨u.states, u.cnt + 1, u.arcs ++ [arcOf m 0]⟩

/-- All moves of a state. -/
def allMoves (most : Nat) : Und → List Mov → Option Und
  | u, [] => some u
  | u, m :: r => (oneMove most u m).bind fun u' => allMoves most u' r

/-- What is explored: nodes done, states met, moves counted. -/
structure Expl where
  nodes : List Node
  states : List ByteArray
  cnt : Nat

def nodeOf (s : Sight) (arcs : List Arc) : Node := ⟨arcs, s.props, s.en, s.pr, s.ac⟩

/-- One state more, if there is one. -/
def oneState (M : Sem) (most : Nat) (x : Expl) (st : ByteArray) : Option Expl :=
  (allMoves most ⟨x.states, x.cnt, []⟩ (M.next st)).map fun u => ⟨x.nodes ++ [nodeOf (M.look st) u.arcs], u.states, u.cnt⟩

def explore (M : Sem) (most : Nat) : Nat → Expl → Option Expl
  | 0, x => some x
  | f + 1, x => match x.states[x.nodes.length]? with
    | none => some x
    | some st => (oneState M most x st).bind (explore M most f)

/-- What Explore answers: the graph and the states, or none: there are too many. -/
def explored (M : Sem) (most : Nat) : Option (List Node × List ByteArray) := (explore M most most ⟨[], [M.begin], 0⟩).map fun x => (x.nodes, x.states)

theorem oneMove_len {most : Nat} {u u' : Und} {m : Mov} (h : oneMove most u m = some u') (hu : u.states.length ≤ most) : u'.states.length ≤ most ∧ u.states <+: u'.states ∧ u'.cnt = u.cnt + 1 ∧ u'.cnt ≤ 262144 := by
  unfold oneMove at h
  split at h
  · split at h
    · split at h
      · cases h
      · cases h; exact ⟨hu, List.prefix_refl _, rfl, by show u.cnt + 1 ≤ _; omega⟩
    · split at h
      · cases h
      · split at h
        · cases h
        · cases h; exact ⟨by simp; omega, List.prefix_append _ _, rfl, by show u.cnt + 1 ≤ _; omega⟩
  · split at h
    · cases h
    · cases h; exact ⟨hu, List.prefix_refl _, rfl, by show u.cnt + 1 ≤ _; omega⟩

theorem allMoves_len {most : Nat} {l : List Mov} : ∀ {u u' : Und}, allMoves most u l = some u' → u.states.length ≤ most → u'.states.length ≤ most ∧ u.states <+: u'.states ∧ u'.cnt = u.cnt + l.length := by
  induction l with
  | nil => intro u u' h hu; cases h; exact ⟨hu, List.prefix_refl _, rfl⟩
  | cons m r ih =>
    intro u u' h hu
    obtain ⟨v, h1, h2⟩ := Option.bind_eq_some_iff.1 h
    obtain ⟨a1, a2, a3, _⟩ := oneMove_len h1 hu
    obtain ⟨b1, b2, b3⟩ := ih h2 a1
    exact ⟨b1, a2.trans b2, by rw [b3, a3, List.length_cons]; omega⟩

theorem allMoves_snoc {most : Nat} {l : List Mov} {m : Mov} : ∀ {u : Und}, allMoves most u (l ++ [m]) = (allMoves most u l).bind fun v => oneMove most v m := by
  induction l with
  | nil => intro u; simp [allMoves]
  | cons x r ih =>
    intro u
    rw [List.cons_append, allMoves, allMoves]
    cases oneMove most u x with
    | none => rfl
    | some v => simp only [Option.bind_some]; exact ih

theorem allMoves_prefix {most : Nat} {l r : List Mov} {u : Und} (h : allMoves most u l = none) : allMoves most u (l ++ r) = none := by
  induction l generalizing u with
  | nil => cases h
  | cons x t ih =>
    rw [List.cons_append, allMoves]
    rw [allMoves] at h
    cases hx : oneMove most u x with
    | none => rfl
    | some v => rw [hx] at h; simp only [Option.bind_some] at h ⊢; exact ih h

theorem oneState_len {M : Sem} {most : Nat} {x y : Expl} {st : ByteArray} (h : oneState M most x st = some y) (hx : x.states.length ≤ most) : y.states.length ≤ most ∧ x.states <+: y.states ∧ y.nodes.length = x.nodes.length + 1 := by
  obtain ⟨u, hu, rfl⟩ := Option.map_eq_some_iff.1 h
  obtain ⟨a, b, _⟩ := allMoves_len hu hx
  exact ⟨a, b, by simp⟩

/-- Where so much fuel is left, it does not matter how much. -/
theorem explore_step {M : Sem} {most f : Nat} {x : Expl} {st : ByteArray} (h : x.states[x.nodes.length]? = some st) : explore M most (f + 1) x = (oneState M most x st).bind (explore M most f) := by
  simp only [explore, h]
theorem explore_end {M : Sem} {most f : Nat} {x : Expl} (h : x.states[x.nodes.length]? = none) : explore M most f x = some x := by
  cases f with
  | zero => rfl
  | succ f => simp only [explore, h]

end Go.Proofs.Ytcpgpiokjghcnaa
