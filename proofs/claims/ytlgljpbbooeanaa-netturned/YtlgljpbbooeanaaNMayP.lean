/-
  Which graphs may be, as it is found out number by number: plain data.
-/
import Derived.Test.YtlgljpbbooeanaaNGraph
namespace Go.Proofs.Ytlgljpbbooeanaa

/-- Numbers that rise, the first one above 'last'. -/
def riseF (last : Int) : List Int → Bool
  | [] => true
  | x :: r => decide (last < x) && riseF x r

theorem riseB_cons (x : Int) (r : List Int) : riseB (x :: r) = (decide (0 ≤ x) && riseF x r) := by
  induction r generalizing x with
  | nil => simp [riseB, riseF]
  | cons y t ih =>
    rw [riseB, ih y, riseF]
    by_cases h0 : 0 ≤ x
    · by_cases h1 : x < y
      · simp [h0, h1, show 0 ≤ y by omega]
      · simp [h1]
    · simp [h0]
theorem riseB_eq (l : List Int) : riseB l = riseF (-1) l := by
  cases l with
  | nil => rfl
  | cons x r =>
    rw [riseB_cons, riseF]
    by_cases h : 0 ≤ x
    · simp [h, show (-1 : Int) < x by omega]
    · simp [h, show ¬ (-1 : Int) < x by omega]
/-- The number behind which the next one must rise. -/
def lastF (last : Int) : List Int → Int
  | [] => last
  | x :: r => lastF x r
theorem lastF_snoc (a : List Int) : ∀ (last x : Int), lastF last (a ++ [x]) = x := by
  induction a with
  | nil => intro _ _; rfl
  | cons y t ih => intro last x; rw [List.cons_append, lastF]; exact ih y x
/-- The first numbers rise up to one that doesn't. -/
theorem riseF_snoc (a : List Int) : ∀ (last x : Int) (r : List Int), ¬ lastF last a < x → riseF last (a ++ x :: r) = false := by
  induction a with
  | nil => intro last x r h; simp only [lastF] at h; simp [riseF, h]
  | cons y t ih =>
    intro last x r h2
    rw [List.cons_append, riseF, ih y x r h2]
    simp
theorem riseF_more (a : List Int) : ∀ (last x : Int), riseF last a = true → lastF last a < x → riseF last (a ++ [x]) = true := by
  induction a with
  | nil => intro last x _ h; simp only [lastF] at h; simp [riseF, h]
  | cons y t ih =>
    intro last x h1 h2
    rw [riseF, Bool.and_eq_true] at h1
    rw [List.cons_append, riseF, Bool.and_eq_true]
    exact ⟨h1.1, ih y x h1.2 h2⟩

theorem arcsIn_app (a b : List Node) : arcsIn (a ++ b) = arcsIn a + arcsIn b := by
  induction a with
  | nil => simp [arcsIn]
  | cons x r ih => rw [List.cons_append, arcsIn, arcsIn, ih]; omega
theorem arcsIn_take (ns : List Node) (i : Nat) (h : i < ns.length) : arcsIn (ns.take (i + 1)) = arcsIn (ns.take i) + ns[i].arcs.length := by
  rw [List.take_add_one, List.getElem?_eq_getElem h, Option.toList_some, arcsIn_app]
  simp [arcsIn]
theorem arcsIn_le (ns : List Node) (i : Nat) : arcsIn (ns.take i) ≤ arcsIn ns := by
  have h := arcsIn_app (ns.take i) (ns.drop i)
  rw [List.take_append_drop] at h
  omega

/-- What is found out of the first nodes. -/
structure MayTo (ns : List Node) (i : Nat) : Prop where
  l0 : 1 ≤ ns.length
  l1 : ns.length ≤ 20000
  cnt : arcsIn (ns.take i) ≤ 262144
  all : ∀ x ∈ ns.take i, x.arcs.all (arcB ns.length) = true
theorem MayTo.done {ns : List Node} (h : MayTo ns ns.length) : mayN ns = true := by
  have h1 := h.cnt
  have h2 := h.all
  rw [List.take_length] at h1 h2
  simp only [mayN, Bool.and_eq_true, decide_eq_true_eq, List.all_eq_true]
  exact ⟨⟨⟨h.l0, h.l1⟩, h1⟩, fun x hx => by have := h2 x hx; rw [List.all_eq_true] at this; exact this⟩
theorem MayTo.step {ns : List Node} {i : Nat} (h : MayTo ns i) (hi : i < ns.length) (hc : arcsIn (ns.take i) + ns[i].arcs.length ≤ 262144) (ha : ns[i].arcs.all (arcB ns.length) = true) : MayTo ns (i + 1) := by
  refine ⟨h.l0, h.l1, by rw [arcsIn_take ns i hi]; exact hc, fun x hx => ?_⟩
  rw [List.take_add_one, List.getElem?_eq_getElem hi, Option.toList_some] at hx
  rcases List.mem_append.1 hx with hx | hx
  · exact h.all x hx
  · rw [List.mem_singleton.1 hx]; exact ha
theorem may_short {ns : List Node} (h : ns.length < 1) : mayN ns = false := by
  simp only [mayN, Bool.and_eq_false_iff, decide_eq_false_iff_not]
  exact .inl (.inl (.inl (by omega)))
theorem may_long {ns : List Node} (h : 20000 < ns.length) : mayN ns = false := by
  simp only [mayN, Bool.and_eq_false_iff, decide_eq_false_iff_not]
  exact .inl (.inl (.inr (by omega)))
theorem may_many {ns : List Node} {i : Nat} (hi : i < ns.length) (hc : 262144 < arcsIn (ns.take i) + ns[i].arcs.length) : mayN ns = false := by
  simp only [mayN, Bool.and_eq_false_iff, decide_eq_false_iff_not]
  refine .inl (.inr ?_)
  have := arcsIn_le ns (i + 1)
  rw [arcsIn_take ns i hi] at this
  omega
theorem may_arc {ns : List Node} {i k : Nat} (hi : i < ns.length) (hk : k < ns[i].arcs.length) (h : arcB ns.length ns[i].arcs[k] = false) : mayN ns = false := by
  cases hm : mayN ns with
  | false => rfl
  | true =>
    simp only [mayN, Bool.and_eq_true, List.all_eq_true] at hm
    have := hm.2 ns[i] (List.getElem_mem hi) ns[i].arcs[k] (List.getElem_mem hk)
    rw [this] at h
    cases h

/-- What is asked of an arc, in the program's order. -/
def arcG (size : Nat) (a : Arc) : Bool :=
  decide (-1 ≤ a.proc) && decide (a.proc ≤ 15) && (decide (0 ≤ a.bad) && decide (a.bad ≤ 5)) && (decide (0 ≤ a.to) && decide (a.to < (if a.bad = 0 then (size : Int) else 1))) && riseB a.reads && riseB a.writes
theorem arcG_eq {size : Nat} (hs : 1 ≤ size) (a : Arc) : arcG size a = arcB size a := by
  rw [Bool.eq_iff_iff]
  unfold arcG arcB
  simp only [Bool.and_eq_true, Bool.or_eq_true, decide_eq_true_eq]
  by_cases hb : a.bad = 0
  · rw [if_pos hb]
    constructor
    · rintro ⟨⟨⟨⟨⟨h1, h2⟩, h3, h4⟩, h5, h6⟩, h7⟩, h8⟩
      exact ⟨⟨⟨⟨⟨⟨⟨⟨h7, h8⟩, h1⟩, h2⟩, h3⟩, h4⟩, h5⟩, h6⟩, .inl hb⟩
    · rintro ⟨⟨⟨⟨⟨⟨⟨⟨h7, h8⟩, h1⟩, h2⟩, h3⟩, h4⟩, h5⟩, h6⟩, _⟩
      exact ⟨⟨⟨⟨⟨h1, h2⟩, h3, h4⟩, h5, h6⟩, h7⟩, h8⟩
  · rw [if_neg hb]
    constructor
    · rintro ⟨⟨⟨⟨⟨h1, h2⟩, h3, h4⟩, h5, h6⟩, h7⟩, h8⟩
      exact ⟨⟨⟨⟨⟨⟨⟨⟨h7, h8⟩, h1⟩, h2⟩, h3⟩, h4⟩, h5⟩, by omega⟩, .inr (by omega)⟩
    · rintro ⟨⟨⟨⟨⟨⟨⟨⟨h7, h8⟩, h1⟩, h2⟩, h3⟩, h4⟩, h5⟩, h6⟩, ho⟩
      have h0 : a.to = 0 := ho.elim (fun h => absurd h hb) id
      exact ⟨⟨⟨⟨⟨h1, h2⟩, h3, h4⟩, h5, by omega⟩, h7⟩, h8⟩

end Go.Proofs.Ytlgljpbbooeanaa
