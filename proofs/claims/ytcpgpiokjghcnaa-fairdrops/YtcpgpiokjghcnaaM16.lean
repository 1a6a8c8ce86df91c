/-
  NLooks, NLooks2, NRegJ.
-/
import Derived.Test.YtcpgpiokjghcnaaM13
import Derived.Test.YtcpgpiokjghcnaaM3
/-
  A region that draws its order, looks and makes memory: what each operation's value is like, told by a relation that what is made besides keeps. (QLooks, QLooks2, QLooks4 over NKit.)
-/
set_option linter.unusedSimpArgs false
namespace Go.Proofs.Ytcpgpiokjghcnaa
open Go.RowKit

theorem Mv.drew (S : Nat → Prop) (w : World) : Mv S w w.drew := ⟨rfl, rfl, rfl, Nat.le_refl _, fun _ _ _ => rfl⟩

/-- What of a region is told by its numbers. -/
def waits (ops : Array Oper) (o : Oper) : List (Nat × Nat) := (o.after.toList.filter (Region.binds .any)).filterMap fun e => ((ops[e.on]?).bind (·.dst)).map fun d => (d, e.on)
def apartO : List Oper → Bool
  | [] => true
  | o :: l => (l.all fun q => q.dst != o.dst) && apartO l
def aheadB (i : Nat) : List Oper → Bool
  | [] => true
  | o :: l => (o.after.toList.all fun e => !Region.binds .any e || decide (e.on < i)) && aheadB (i + 1) l
def looksB (ops : Array Oper) (N : Nat) : Bool := apartO ops.toList && (ops.toList.all fun o => match o.dst with | some d => decide (d < N) | none => false) && aheadB 0 ops.toList

theorem apartO_of : ∀ {l : List Oper}, apartO l = true → ∀ (i j : Nat) o o' d, l[i]? = some o → l[j]? = some o' → o.dst = some d → o'.dst = some d → i = j := by
  intro l
  induction l with
  | nil => intro _ i j o o' d h; simp at h
  | cons p l ih =>
    intro h i j o o' d hi hj hd hd'
    simp only [apartO, Bool.and_eq_true, List.all_eq_true] at h
    have hne : ∀ q ∈ l, q.dst ≠ p.dst := fun q hq => by simpa using h.1 q hq
    cases i with
    | zero =>
      simp at hi; subst hi
      cases j with
      | zero => rfl
      | succ j => exact absurd (by rw [hd, hd']) (hne o' (List.mem_of_getElem? (by simpa using hj)))
    | succ i =>
      cases j with
      | zero => simp at hj; subst hj; exact absurd (by rw [hd, hd']) (hne o (List.mem_of_getElem? (by simpa using hi)))
      | succ j => rw [ih h.2 i j o o' d (by simpa using hi) (by simpa using hj) hd hd']

theorem aheadB_of : ∀ {l : List Oper} {k : Nat}, aheadB k l = true → ∀ (i : Nat) o, l[i]? = some o → ∀ e ∈ o.after, Region.binds .any e = true → e.on < k + i := by
  intro l
  induction l with
  | nil => intro k _ i o h; simp at h
  | cons p l ih =>
    intro k h i o hi e he hb
    simp only [aheadB, Bool.and_eq_true, List.all_eq_true] at h
    cases i with
    | zero =>
      simp at hi; subst hi
      have := h.1 e (Array.mem_toList_iff.2 he)
      rw [hb] at this
      simpa using this
    | succ i =>
      have := ih h.2 i o (by simpa using hi) e he hb
      omega

theorem getD_set' {l : Array Bool} {i j : Nat} (h : (l.setIfInBounds i true).getD j false = true) : j = i ∨ l.getD j false = true := by
  by_cases hji : j = i
  · exact .inl hji
  · right
    rw [Array.getD_eq_getD_getElem?, Array.getElem?_setIfInBounds_ne (Ne.symm hji), ← Array.getD_eq_getD_getElem?] at h
    exact h

/-- The slots of the operations that are waited for, and what they hold. -/
def HadR (R : Nat → World → Value → Prop) (a : Act) (w : World) : List (Nat × Nat) → Prop
  | [] => True
  | p :: r => (∃ v, a.tmps[p.1]? = some v ∧ R p.2 w v) ∧ HadR R a w r

/-- What is known on the way. -/
structure LR (ops : Array Oper) (R : Nat → World → Value → Prop) (A0 : Act) (W : World) (l : Array Bool) (a : Act) (w : World) : Prop where
  ls : l.size = ops.size
  sz : a.tmps.size = A0.tmps.size
  df : a.defers = A0.defers
  nu : Nu W w
  fr : ∀ j : Nat, (∀ (i : Nat) (o : Oper), ops[i]? = some o → o.dst ≠ some j) → a.tmps[j]? = A0.tmps[j]?
  tv : ∀ (i : Nat) (o : Oper) (d : Nat), ops[i]? = some o → l.getD i false = true → o.dst = some d → ∃ v, a.tmps[d]? = some v ∧ R i w v

theorem hadR_of {ops : Array Oper} {R : Nat → World → Value → Prop} {a : Act} {w : World} {l : Array Bool} (tv : ∀ (i : Nat) (o : Oper) (d : Nat), ops[i]? = some o → l.getD i false = true → o.dst = some d → ∃ v, a.tmps[d]? = some v ∧ R i w v) :
    ∀ es : List Edge, (∀ e ∈ es, l.getD e.on false = true) → HadR R a w (es.filterMap fun e => ((ops[e.on]?).bind (·.dst)).map fun d => (d, e.on)) := by
  intro es
  induction es with
  | nil => exact fun _ => trivial
  | cons e es ih =>
    intro h
    have hr := ih (fun x hx => h x (List.mem_cons_of_mem _ hx))
    cases ho : ops[e.on]? with
    | none =>
      rw [List.filterMap_cons_none (by rw [ho]; rfl)]
      exact hr
    | some o =>
      cases hd : o.dst with
      | none =>
        rw [List.filterMap_cons_none (by rw [ho]; simp [hd])]
        exact hr
      | some d =>
        rw [List.filterMap_cons_some (b := (d, e.on)) (by rw [ho]; simp [hd])]
        exact And.intro (tv e.on o d ho (h e List.mem_cons_self) hd) hr

theorem LR.put {ops : Array Oper} {R : Nat → World → Value → Prop} {A0 : Act} {W : World} {l : Array Bool} {a : Act} {w w' : World} {v : Value} (h : LR ops R A0 W l a w) (hR : ∀ i w w' v, Nu w w' → R i w v → R i w' v) (hk : looksB ops A0.tmps.size = true) (hm : Nu w w') {i : Nat} {o : Oper} {d : Nat} (hi : ops[i]? = some o) (hd : o.dst = some d) (hv : R i w' v) :
    LR ops R A0 W (l.setIfInBounds i true) ⟨a.tmps.setIfInBounds d v, a.defers⟩ w' := by
  simp only [looksB, Bool.and_eq_true, List.all_eq_true] at hk
  have hlt : d < a.tmps.size := by
    have := hk.1.2 o (Array.mem_toList_iff.2 (Array.mem_of_getElem? hi))
    rw [hd] at this
    rw [h.sz]
    simpa using this
  refine ⟨by simp [h.ls], by simp [h.sz], h.df, mv0 h.nu hm, fun j hj => ?_, fun j o' d' hj hlj hd' => ?_⟩
  · have hne : d ≠ j := fun e => hj i o hi (by rw [hd, e])
    rw [Array.getElem?_setIfInBounds_ne hne]
    exact h.fr j hj
  · by_cases hji : j = i
    · subst hji
      rw [hi] at hj
      cases hj
      rw [hd] at hd'
      cases hd'
      exact ⟨v, by rw [Array.getElem?_setIfInBounds_self]; simp [hlt], hv⟩
    · rcases getD_set' hlj with e | hlj
      · exact absurd e hji
      · have hne : d ≠ d' := fun e => hji (apartO_of hk.1.1 j i o' o d (by rw [Array.getElem?_toList]; exact hj) (by rw [Array.getElem?_toList]; exact hi) (by rw [e]; exact hd') hd)
        obtain ⟨u, h1, h2⟩ := h.tv j o' d' hj hlj hd'
        exact ⟨u, by rw [Array.getElem?_setIfInBounds_ne hne]; exact h1, hR _ _ _ _ hm h2⟩

/-- THE LAW. -/
theorem wp_lookR {ops : Array Oper} {A0 : Act} {W : World} {Q : Exit → Act → World → Prop} {id : Nat} (R : Nat → World → Value → Prop) (hR : ∀ i w w' v, Nu w w' → R i w v → R i w' v) (hF : Try.prog.follows Departure.mixedOrders = true) (hk : looksB ops A0.tmps.size = true)
    (hstep : ∀ (i : Nat) (o : Oper) (d : Nat) (a : Act) (w : World), ops[i]? = some o → o.dst = some d → Nu W w → (∀ j : Nat, (ops.toList.all fun o => o.dst != some j) = true → a.tmps[j]? = A0.tmps[j]?) → HadR R a w (waits ops o) →
      ∀ K : Act → World → Prop, (∀ w' v, Nu w w' → R i w' v → K ⟨a.tmps.setIfInBounds d v, a.defers⟩ w') → if Region.wanted o (yielded ops a.tmps) = true then Oper.wp Try.prog o a w K Q else K (a.put o.dst undef) w)
    (hQ : ∀ a w, Nu W w → a.defers = A0.defers → a.tmps.size = A0.tmps.size → (∀ j : Nat, (∀ (i : Nat) (o : Oper), ops[i]? = some o → o.dst ≠ some j) → a.tmps[j]? = A0.tmps[j]?) → (∀ (i : Nat) (o : Oper) (d : Nat), ops[i]? = some o → o.dst = some d → ∃ v, a.tmps[d]? = some v ∧ R i w v) → Q .normal a w) :
    Code.wp Try.prog (Code.region id ops true) Q A0 W := by
  have hk' := hk
  simp only [looksB, Bool.and_eq_true, List.all_eq_true] at hk'
  have hfalse : ∀ i, (Array.replicate ops.size false).getD i false = false := fun i => by
    rw [Array.getD_eq_getD_getElem?, Array.getElem?_replicate]
    split <;> rfl
  have hahead : ∀ (i : Nat) o, ops[i]? = some o → ∀ e ∈ o.after, Region.binds .any e = true → e.on < i := fun i o ho e he hb => by
    have := aheadB_of hk'.2 i o (by rw [Array.getElem?_toList]; exact ho) e he hb
    omega
  refine wp_region_inv hF (LR ops R A0 W) ?_ ?_ ?_
  · exact ⟨by simp, rfl, rfl, Mv.drew _ _, fun _ _ => rfl, fun i _ _ _ hl => absurd hl (by rw [hfalse]; simp)⟩
  · intro l a w hI hrd
    have hall : ∀ i, i < ops.size → l.getD i false = true := by
      intro i
      induction i using Nat.strongRecOn with
      | _ i ih =>
        intro hi
        cases hg : l.getD i false with
        | true => rfl
        | false =>
          exfalso
          have hmem : i ∈ Region.ready .any ops l := by
            unfold Region.ready
            rw [List.mem_filter]
            refine ⟨List.mem_range.2 hi, ?_⟩
            obtain ⟨o, ho⟩ : ∃ o, ops[i]? = some o := ⟨_, Array.getElem?_eq_getElem hi⟩
            have hgt : l.getD i true = false := by
              have hls := hI.ls
              rw [Array.getD_eq_getD_getElem?, Array.getElem?_eq_getElem (by omega)] at hg ⊢
              simpa using hg
            rw [hgt, ho]
            simp only [Bool.not_false, Bool.true_and, Option.map_some, Option.getD_some]
            rw [Array.all_eq_true']
            intro e he
            cases hb : Region.binds .any e with
            | false => simp
            | true => rw [ih e.on (hahead i o ho e he hb) (by have := hahead i o ho e he hb; omega)]; simp
          rw [hrd] at hmem
          cases hmem
    exact hQ a w hI.nu hI.df hI.sz hI.fr (fun i o d ho hd => hI.tv i o d ho (hall i (Array.getElem?_eq_some_iff.1 ho).1) hd)
  · intro l a w i o hI ho _ haft
    have hdo : ∃ d, o.dst = some d := by
      have := hk'.1.2 o (Array.mem_toList_iff.2 (Array.mem_of_getElem? ho))
      cases hd : o.dst with
      | none => rw [hd] at this; cases this
      | some d => exact ⟨d, rfl⟩
    obtain ⟨d, hd⟩ := hdo
    refine hstep i o d a w ho hd hI.nu (fun j hj => hI.fr j (fun i' o' ho' => ?_)) (hadR_of hI.tv _ (fun e he => ?_)) (LR ops R A0 W (l.setIfInBounds i true)) (fun w' v hm hv => hI.put hR hk hm ho hd hv)
    · rw [List.all_eq_true] at hj
      have := hj o' (Array.mem_toList_iff.2 (Array.mem_of_getElem? ho'))
      simpa using this
    · rw [List.mem_filter] at he
      exact haft e (Array.mem_toList_iff.1 he.1) he.2

theorem ite_yes {c : Bool} {p q : Prop} (h : c = true) (hp : p) : if c = true then p else q := by rw [if_pos h]; exact hp
theorem ite_no {c : Bool} {p q : Prop} (h : c = false) (hq : q) : if c = true then p else q := by rw [if_neg (by simp [h])]; exact hq

theorem want_none {o : Oper} {y : Nat → Option Bool} (h : o.guard = none) : Region.wanted o y = true := by simp [Region.wanted, h]
theorem want_some {ops : Array Oper} {o o' : Oper} {a : Act} {j d : Nat} {b : Bool} (h : o.guard = some (j, b)) (ho : ops[j]? = some o') (hd : o'.dst = some d) (hv : a.tmps[d]? = some (.bool b)) : Region.wanted o (yielded ops a.tmps) = true := by
  simp [Region.wanted, h, yielded, ho, hd, hv]
theorem want_not {ops : Array Oper} {o o' : Oper} {a : Act} {j d : Nat} {b : Bool} (h : o.guard = some (j, b)) (ho : ops[j]? = some o') (hd : o'.dst = some d) (hv : a.tmps[d]? = some (.bool (!b))) : Region.wanted o (yielded ops a.tmps) = false := by
  simp [Region.wanted, h, yielded, ho, hd, hv]

section
variable {o : Oper} {a : Act} {w : World} {K : Act → World → Prop} {Q : Exit → Act → World → Prop} {d : Nat}

theorem lk_move {s : Nat} {v : Value} (hd : o.dst = some d) (ho : o.op = .move (.tmp s)) (hs : a.tmps[s]? = some v) (hK : ∀ w', Nu w w' → K ⟨a.tmps.setIfInBounds d v, a.defers⟩ w') : Oper.wp Try.prog o a w K Q := by
  have he : a.eval (.tmp s) = v := by simp [Act.eval, hs]
  unfold Oper.wp execOp
  simp only [ho, he, hd]
  go_simp
  exact hK w (Mv.refl _ _)

theorem lk_assign {s : Nat} {v : Value} (hd : o.dst = some d) (ho : o.op = .assign (.tmp s)) (hs : a.tmps[s]? = some v) (hK : ∀ w', Nu w w' → K ⟨a.tmps.setIfInBounds d v, a.defers⟩ w') : Oper.wp Try.prog o a w K Q := by
  have he : a.eval (.tmp s) = v := by simp [Act.eval, hs]
  unfold Oper.wp execOp
  simp only [ho, he, hd]
  go_simp
  exact hK w (Mv.refl _ _)

theorem lk_pickT {s r : Nat} {c v : Value} (hd : o.dst = some d) (ho : o.op = .pick (.tmp s) (.tmp r) (.const c)) (hs : a.tmps[s]? = some (.bool true)) (hr : a.tmps[r]? = some v) (hK : ∀ w', Nu w w' → K ⟨a.tmps.setIfInBounds d v, a.defers⟩ w') : Oper.wp Try.prog o a w K Q := by
  have he : a.eval (.tmp s) = .bool true := by simp [Act.eval, hs]
  have he' : a.eval (.tmp r) = v := by simp [Act.eval, hr]
  unfold Oper.wp execOp
  simp only [ho, hd]
  go_simp
  exact hK w (Mv.refl _ _)

end

end Go.Proofs.Ytcpgpiokjghcnaa
/-
  A region that draws its order, looks and makes memory, and whose last operation, behind all others, stores: what each operation's value is like, told by a relation; the store by itself.
-/
set_option linter.unusedSimpArgs false
namespace Go.Proofs.Ytcpgpiokjghcnaa
open Go.RowKit

/-- What of such a region is told by its numbers. -/
def storesB (ops : Array Oper) (N : Nat) : Bool :=
  apartO ops.toList && (ops.toList.all fun o => match o.dst with | some d => decide (d < N) | none => true) && aheadB 0 ops.toList &&
  ((List.range ops.size).all fun i => i + 1 == ops.size || ((ops[i]?).any fun o => o.dst.isSome)) &&
  (match ops[ops.size - 1]? with | some o => o.dst.isNone && o.guard.isNone && ((List.range (ops.size - 1)).all fun i => o.after.toList.any fun e => e.on == i && Region.binds .any e) | none => false)

theorem LR.put2 {ops : Array Oper} {R : Nat → World → Value → Prop} {A0 : Act} {W : World} {l : Array Bool} {a : Act} {w w' : World} {v : Value} (h : LR ops R A0 W l a w) (hR : ∀ i w w' v, Nu w w' → R i w v → R i w' v) (hap : apartO ops.toList = true) {i : Nat} {o : Oper} {d : Nat} (hdN : d < A0.tmps.size) (hm : Nu w w') (hi : ops[i]? = some o) (hd : o.dst = some d) (hv : R i w' v) :
    LR ops R A0 W (l.setIfInBounds i true) ⟨a.tmps.setIfInBounds d v, a.defers⟩ w' := by
  have hlt : d < a.tmps.size := by rw [h.sz]; exact hdN
  refine ⟨by simp [h.ls], by simp [h.sz], h.df, mv0 h.nu hm, fun j hj => ?_, fun j o' d' hj hlj hd' => ?_⟩
  · have hne : d ≠ j := fun e => hj i o hi (by rw [hd, e])
    rw [Array.getElem?_setIfInBounds_ne hne]
    exact h.fr j hj
  · by_cases hji : j = i
    · subst hji
      rw [hi] at hj
      cases hj
      rw [hd] at hd'
      cases hd'
      exact ⟨v, by rw [Array.getElem?_setIfInBounds_self]; simp [hlt], hv⟩
    · rcases getD_set' hlj with e | hlj
      · exact absurd e hji
      · have hne : d ≠ d' := fun e => hji (apartO_of hap j i o' o d (by rw [Array.getElem?_toList]; exact hj) (by rw [Array.getElem?_toList]; exact hi) (by rw [e]; exact hd') hd)
        obtain ⟨u, h1, h2⟩ := h.tv j o' d' hj hlj hd'
        exact ⟨u, by rw [Array.getElem?_setIfInBounds_ne hne]; exact h1, hR _ _ _ _ hm h2⟩

/-- THE LAW. -/
theorem wp_lookS {ops : Array Oper} {A0 : Act} {W : World} {Q : Exit → Act → World → Prop} {id : Nat} (R : Nat → World → Value → Prop) (hR : ∀ i w w' v, Nu w w' → R i w v → R i w' v) (hF : Try.prog.follows Departure.mixedOrders = true) (hk : storesB ops A0.tmps.size = true)
    (hstep : ∀ (i : Nat) (o : Oper) (d : Nat) (a : Act) (w : World), ops[i]? = some o → o.dst = some d → Nu W w → (∀ j : Nat, (ops.toList.all fun o => o.dst != some j) = true → a.tmps[j]? = A0.tmps[j]?) → HadR R a w (waits ops o) →
      ∀ K : Act → World → Prop, (∀ w' v, Nu w w' → R i w' v → K ⟨a.tmps.setIfInBounds d v, a.defers⟩ w') → if Region.wanted o (yielded ops a.tmps) = true then Oper.wp Try.prog o a w K Q else K (a.put o.dst undef) w)
    (hlast : ∀ (o : Oper) (a : Act) (w : World), ops[ops.size - 1]? = some o → Nu W w → a.defers = A0.defers → a.tmps.size = A0.tmps.size → (∀ j : Nat, (ops.toList.all fun o => o.dst != some j) = true → a.tmps[j]? = A0.tmps[j]?) → (∀ (i : Nat) (o : Oper) (d : Nat), ops[i]? = some o → o.dst = some d → ∃ v, a.tmps[d]? = some v ∧ R i w v) →
      Oper.wp Try.prog o a w (fun a' w' => Q .normal a' w') Q) :
    Code.wp Try.prog (Code.region id ops true) Q A0 W := by
  have hk' := hk
  simp only [storesB, Bool.and_eq_true, List.all_eq_true] at hk'
  obtain ⟨⟨⟨⟨hap, hdst⟩, hahd⟩, hsome⟩, hlst⟩ := hk'
  cases hol : ops[ops.size - 1]? with
  | none => rw [hol] at hlst; cases hlst
  | some ol =>
    rw [hol] at hlst
    simp only [Bool.and_eq_true, List.all_eq_true, List.mem_range] at hlst
    obtain ⟨⟨hln, hlg⟩, hla⟩ := hlst
    have hpos : ops.size - 1 < ops.size := (Array.getElem?_eq_some_iff.1 hol).1
    have hfalse : ∀ i, (Array.replicate ops.size false).getD i false = false := fun i => by
      rw [Array.getD_eq_getD_getElem?, Array.getElem?_replicate]
      split <;> rfl
    have hahead : ∀ (i : Nat) o, ops[i]? = some o → ∀ e ∈ o.after, Region.binds .any e = true → e.on < i := fun i o ho e he hb => by
      have := aheadB_of hahd i o (by rw [Array.getElem?_toList]; exact ho) e he hb
      omega
    have hfrm : ∀ {l : Array Bool} {a : Act} {w : World}, LR ops R A0 W l a w → ∀ j : Nat, (ops.toList.all fun o => o.dst != some j) = true → a.tmps[j]? = A0.tmps[j]? := fun hI j hj => hI.fr j (fun i' o' ho' => by
      rw [List.all_eq_true] at hj
      have := hj o' (Array.mem_toList_iff.2 (Array.mem_of_getElem? ho'))
      simpa using this)
    refine wp_region_inv hF (fun l a w => (l.getD (ops.size - 1) false = false ∧ LR ops R A0 W l a w) ∨ (l.size = ops.size ∧ (∀ i, i < ops.size → l.getD i false = true) ∧ Q .normal a w)) ?_ ?_ ?_
    · exact .inl ⟨hfalse _, by simp, rfl, rfl, Mv.drew _ _, fun _ _ => rfl, fun i _ _ _ hl => absurd hl (by rw [hfalse]; simp)⟩
    · rintro l a w (⟨hn, hI⟩ | ⟨_, _, hq⟩) hrd
      · exfalso
        have hall : ∀ i, i < ops.size → l.getD i false = true := by
          intro i
          induction i using Nat.strongRecOn with
          | _ i ih =>
            intro hi
            cases hg : l.getD i false with
            | true => rfl
            | false =>
              exfalso
              have hmem : i ∈ Region.ready .any ops l := by
                unfold Region.ready
                rw [List.mem_filter]
                refine ⟨List.mem_range.2 hi, ?_⟩
                obtain ⟨o, ho⟩ : ∃ o, ops[i]? = some o := ⟨_, Array.getElem?_eq_getElem hi⟩
                have hgt : l.getD i true = false := by
                  have hls := hI.ls
                  rw [Array.getD_eq_getD_getElem?, Array.getElem?_eq_getElem (by omega)] at hg ⊢
                  simpa using hg
                rw [hgt, ho]
                simp only [Bool.not_false, Bool.true_and, Option.map_some, Option.getD_some]
                rw [Array.all_eq_true']
                intro e he
                cases hb : Region.binds .any e with
                | false => simp
                | true => rw [ih e.on (hahead i o ho e he hb) (by have := hahead i o ho e he hb; omega)]; simp
              rw [hrd] at hmem
              cases hmem
        rw [hall _ hpos] at hn
        cases hn
      · exact hq
    · rintro l a w i o (⟨hn, hI⟩ | ⟨hls, hall, _⟩) ho hli haft
      · have hil : i < ops.size := (Array.getElem?_eq_some_iff.1 ho).1
        by_cases hin : i = ops.size - 1
        · subst hin
          rw [hol] at ho
          cases ho
          have hwant : Region.wanted ol (yielded ops a.tmps) = true := by
            cases hg : ol.guard with
            | none => simp [Region.wanted, hg]
            | some _ => rw [hg] at hlg; cases hlg
          have hoth : ∀ k, k < ops.size - 1 → l.getD k false = true := fun k hk => by
            have := hla k hk
            rw [List.any_eq_true] at this
            obtain ⟨e, he, hb⟩ := this
            rw [Bool.and_eq_true] at hb
            have h1 := haft e (Array.mem_toList_iff.1 he) hb.2
            rwa [beq_iff_eq.1 hb.1] at h1
          rw [if_pos hwant]
          refine Oper.wp_mono (fun a' w' hq => .inr ⟨by simp [hI.ls], fun k hk => ?_, hq⟩) (hlast ol a w hol hI.nu hI.df hI.sz (hfrm hI) (fun j o' d hj hd => hI.tv j o' d hj ?_ hd))
          · by_cases hkn : k = ops.size - 1
            · subst hkn
              rw [Array.getD_eq_getD_getElem?, Array.getElem?_setIfInBounds_self]
              simp [hI.ls, hpos]
            · rw [Array.getD_eq_getD_getElem?, Array.getElem?_setIfInBounds_ne (fun e => hkn e.symm), ← Array.getD_eq_getD_getElem?]
              exact hoth k (by omega)
          · have hjl : j < ops.size := (Array.getElem?_eq_some_iff.1 hj).1
            refine hoth j ?_
            by_cases hjn : j = ops.size - 1
            · subst hjn
              rw [hol] at hj
              cases hj
              rw [hd] at hln
              cases hln
            · omega
        · have hs := hsome i (List.mem_range.2 hil)
          rw [Bool.or_eq_true, beq_iff_eq] at hs
          obtain ⟨d, hd⟩ : ∃ d, o.dst = some d := by
            rcases hs with hs | hs
            · omega
            · rw [ho] at hs
              simp only [Option.any_some] at hs
              exact Option.isSome_iff_exists.1 hs
          have hdN : d < A0.tmps.size := by
            have := hdst o (Array.mem_toList_iff.2 (Array.mem_of_getElem? ho))
            rw [hd] at this
            simpa using this
          refine hstep i o d a w ho hd hI.nu (hfrm hI) (hadR_of hI.tv _ (fun e he => ?_)) _ (fun w' v hm hv => .inl ⟨?_, hI.put2 hR hap hdN hm ho hd hv⟩)
          · rw [List.mem_filter] at he
            exact haft e (Array.mem_toList_iff.1 he.1) he.2
          · rw [Array.getD_eq_getD_getElem?, Array.getElem?_setIfInBounds_ne hin, ← Array.getD_eq_getD_getElem?]
            exact hn
      · exfalso
        have hil : i < ops.size := (Array.getElem?_eq_some_iff.1 ho).1
        have h1 := hall i hil
        rw [Array.getD_eq_getD_getElem?, Array.getElem?_eq_getElem (by omega)] at h1 hli
        simp only [Option.getD_some] at h1 hli
        rw [h1] at hli
        cases hli

/-- The slots behind a region. -/
def fill (vals : Nat → Value) : List Oper → Nat → Array Value → Array Value
  | [], _, t => t
  | o :: l, i, t => fill vals l (i + 1) (match o.dst with | some d => t.setIfInBounds d (vals i) | none => t)

theorem fill_size (vals : Nat → Value) : ∀ (l : List Oper) (k : Nat) (t : Array Value), (fill vals l k t).size = t.size
  | [], _, _ => rfl
  | o :: l, k, t => by
    rw [fill, fill_size]
    cases o.dst <;> simp

theorem fill_other (vals : Nat → Value) {j : Nat} : ∀ {l : List Oper} {k : Nat} {t : Array Value}, (∀ (i : Nat) (o : Oper), l[i]? = some o → o.dst ≠ some j) → (fill vals l k t)[j]? = t[j]?
  | [], _, _, _ => rfl
  | o :: l, k, t, h => by
    rw [fill, fill_other vals (fun i o' ho => h (i + 1) o' (by simpa using ho))]
    have h0 := h 0 o rfl
    cases hd : o.dst with
    | none => rfl
    | some d =>
      simp only
      rw [Array.getElem?_setIfInBounds_ne (fun e => h0 (by rw [hd, e]))]

theorem fill_at (vals : Nat → Value) {d : Nat} : ∀ {l : List Oper} {k i : Nat} {t : Array Value} {o : Oper}, apartO l = true → l[i]? = some o → o.dst = some d → d < t.size → (fill vals l k t)[d]? = some (vals (k + i))
  | [], _, _, _, _, _, h, _, _ => by simp at h
  | p :: l, k, i, t, o, ha, hi, hd, hlt => by
    have ha' := ha
    simp only [apartO, Bool.and_eq_true, List.all_eq_true] at ha
    cases i with
    | zero =>
      simp at hi
      subst hi
      rw [fill, fill_other vals (fun i o' ho e => ?_)]
      · rw [hd]
        simp [hlt]
      · have := ha.1 o' (List.mem_of_getElem? ho)
        rw [hd, e] at this
        simp at this
    | succ i =>
      rw [fill, fill_at vals ha.2 (i := i) (o := o) (by simpa using hi) hd (by cases p.dst <;> simpa using hlt)]
      congr 2
      omega

/-- The slots behind such a region, written out. -/
theorem fill_eq {ops : Array Oper} {A0 a : Act} {vals : Nat → Value} (hk : storesB ops A0.tmps.size = true) (hfr : ∀ j : Nat, (ops.toList.all fun o => o.dst != some j) = true → a.tmps[j]? = A0.tmps[j]?)
    (htv : ∀ (i : Nat) (o : Oper) (d : Nat), ops[i]? = some o → o.dst = some d → a.tmps[d]? = some (vals i)) : a.tmps = fill vals ops.toList 0 A0.tmps := by
  have hk' := hk
  simp only [storesB, Bool.and_eq_true, List.all_eq_true] at hk'
  obtain ⟨⟨⟨⟨hap, hdst⟩, _⟩, _⟩, _⟩ := hk'
  apply Array.ext_getElem?
  intro j
  by_cases hj : ∃ (i : Nat) (o : Oper), ops[i]? = some o ∧ o.dst = some j
  · obtain ⟨i, o, ho, hd⟩ := hj
    have hlt : j < A0.tmps.size := by
      have := hdst o (Array.mem_toList_iff.2 (Array.mem_of_getElem? ho))
      rw [hd] at this
      simpa using this
    rw [htv i o j ho hd, fill_at vals hap (i := i) (by rw [Array.getElem?_toList]; exact ho) hd hlt, Nat.zero_add]
  · rw [hfr j (by
      rw [List.all_eq_true]
      intro o ho
      obtain ⟨i, hi, rfl⟩ := List.mem_iff_getElem.1 ho
      rw [bne_iff_ne]
      exact fun e => hj ⟨i, _, by rw [← Array.getElem?_toList, List.getElem?_eq_getElem hi], e⟩), fill_other vals (fun i o ho hd => hj ⟨i, o, by rw [← Array.getElem?_toList]; exact ho, hd⟩)]

end Go.Proofs.Ytcpgpiokjghcnaa
/-
  A region that draws its order, looks, makes memory and stores: what each operation's value is like, told by a relation; what the stores have left, told by J of what was done. No order is gone through.
-/
set_option linter.unusedSimpArgs false
set_option linter.unusedVariables false
namespace Go.Proofs.Ytcpgpiokjghcnaa
open Go.RowKit

def apartN : List Oper → Bool
  | [] => true
  | o :: l => (o.dst.isNone || l.all fun q => q.dst != o.dst) && apartN l
def regB (ops : Array Oper) (N : Nat) : Bool := apartN ops.toList && (ops.toList.all fun o => match o.dst with | some d => decide (d < N) | none => o.guard.isNone) && aheadB 0 ops.toList

theorem apartN_of : ∀ {l : List Oper}, apartN l = true → ∀ (i j : Nat) o o' d, l[i]? = some o → l[j]? = some o' → o.dst = some d → o'.dst = some d → i = j := by
  intro l
  induction l with
  | nil => intro _ i j o o' d h; simp at h
  | cons p l ih =>
    intro h i j o o' d hi hj hd hd'
    simp only [apartN, Bool.and_eq_true, Bool.or_eq_true, List.all_eq_true] at h
    have hne : ∀ q ∈ l, p.dst = some d → q.dst ≠ p.dst := fun q hq hp => by
      rcases h.1 with h1 | h1
      · rw [hp] at h1; cases h1
      · simpa using h1 q hq
    cases i with
    | zero =>
      simp at hi; subst hi
      cases j with
      | zero => rfl
      | succ j => exact absurd (by rw [hd, hd']) (hne o' (List.mem_of_getElem? (by simpa using hj)) hd)
    | succ i =>
      cases j with
      | zero => simp at hj; subst hj; exact absurd (by rw [hd, hd']) (hne o (List.mem_of_getElem? (by simpa using hi)) hd')
      | succ j => rw [ih h.2 i j o o' d (by simpa using hi) (by simpa using hj) hd hd']

/-- What is known on the way. -/
structure LJ (ops : Array Oper) (S : Nat → Prop) (R : Nat → World → Value → Prop) (J : Array Bool → World → Prop) (A0 : Act) (W : World) (l : Array Bool) (a : Act) (w : World) : Prop where
  ls : l.size = ops.size
  sz : a.tmps.size = A0.tmps.size
  df : a.defers = A0.defers
  mv : Mv S W w
  fr : ∀ j : Nat, (∀ (i : Nat) (o : Oper), ops[i]? = some o → o.dst ≠ some j) → a.tmps[j]? = A0.tmps[j]?
  tv : ∀ (i : Nat) (o : Oper) (d : Nat), ops[i]? = some o → l.getD i false = true → o.dst = some d → ∃ v, a.tmps[d]? = some v ∧ R i w v
  j : J l w
  cl : ∀ (i : Nat) (o : Oper), ops[i]? = some o → l.getD i false = true → ∀ e ∈ o.after, Region.binds .any e = true → l.getD e.on false = true

theorem cl_set {ops : Array Oper} {l : Array Bool} (cl : ∀ (i : Nat) (o : Oper), ops[i]? = some o → l.getD i false = true → ∀ e ∈ o.after, Region.binds .any e = true → l.getD e.on false = true) {i : Nat} {o : Oper} (hi : ops[i]? = some o) (haft : ∀ e ∈ o.after, Region.binds .any e = true → l.getD e.on false = true) :
    ∀ (j : Nat) (p : Oper), ops[j]? = some p → (l.setIfInBounds i true).getD j false = true → ∀ e ∈ p.after, Region.binds .any e = true → (l.setIfInBounds i true).getD e.on false = true := by
  intro j p hj hl e he hb
  have hget : ∀ k, l.getD k false = true → (l.setIfInBounds i true).getD k false = true := fun k hk => by
    by_cases hki : k = i
    · subst hki
      rw [Array.getD_eq_getD_getElem?] at hk ⊢
      cases hg : l[k]? with
      | none => rw [hg] at hk; cases hk
      | some b =>
        have hlt := (Array.getElem?_eq_some_iff.1 hg).1
        rw [Array.getElem?_setIfInBounds_self]
        simp [hlt]
    · rw [Array.getD_eq_getD_getElem?, Array.getElem?_setIfInBounds_ne (fun e => hki e.symm), ← Array.getD_eq_getD_getElem?]
      exact hk
  rcases getD_set' hl with e' | hl
  · subst e'
    rw [hi] at hj
    cases hj
    exact hget _ (haft e he hb)
  · exact hget _ (cl j p hj hl e he hb)

theorem LJ.put {ops : Array Oper} {S : Nat → Prop} {R : Nat → World → Value → Prop} {J : Array Bool → World → Prop} {A0 : Act} {W : World} {l : Array Bool} {a : Act} {w w' : World} {v : Value} (h : LJ ops S R J A0 W l a w) (hR : ∀ i w w' v, Mv S w w' → R i w v → R i w' v) (hk : regB ops A0.tmps.size = true) (hm : Nu w w') {i : Nat} {o : Oper} {d : Nat} (hi : ops[i]? = some o) (hd : o.dst = some d) (hv : R i w' v) (hJJ : J (l.setIfInBounds i true) w') (haft : ∀ e ∈ o.after, Region.binds .any e = true → l.getD e.on false = true) :
    LJ ops S R J A0 W (l.setIfInBounds i true) ⟨a.tmps.setIfInBounds d v, a.defers⟩ w' := by
  simp only [regB, Bool.and_eq_true, List.all_eq_true] at hk
  have hm' : Mv S w w' := hm.mono (fun _ h => h.elim)
  have hlt : d < a.tmps.size := by
    have := hk.1.2 o (Array.mem_toList_iff.2 (Array.mem_of_getElem? hi))
    rw [hd] at this
    rw [h.sz]
    simpa using this
  refine ⟨by simp [h.ls], by simp [h.sz], h.df, nu_mv h.mv hm, fun j hj => ?_, fun j o' d' hj hlj hd' => ?_, hJJ, cl_set h.cl hi haft⟩
  · have hne : d ≠ j := fun e => hj i o hi (by rw [hd, e])
    rw [Array.getElem?_setIfInBounds_ne hne]
    exact h.fr j hj
  · by_cases hji : j = i
    · subst hji
      rw [hi] at hj
      cases hj
      rw [hd] at hd'
      cases hd'
      exact ⟨v, by rw [Array.getElem?_setIfInBounds_self]; simp [hlt], hv⟩
    · rcases getD_set' hlj with e | hlj
      · exact absurd e hji
      · have hne : d ≠ d' := fun e => hji (apartN_of hk.1.1 j i o' o d (by rw [Array.getElem?_toList]; exact hj) (by rw [Array.getElem?_toList]; exact hi) (by rw [e]; exact hd') hd)
        obtain ⟨u, h1, h2⟩ := h.tv j o' d' hj hlj hd'
        exact ⟨u, by rw [Array.getElem?_setIfInBounds_ne hne]; exact h1, hR _ _ _ _ hm' h2⟩

theorem LJ.store {ops : Array Oper} {S : Nat → Prop} {R : Nat → World → Value → Prop} {J : Array Bool → World → Prop} {A0 : Act} {W : World} {l : Array Bool} {a : Act} {w w' : World} (h : LJ ops S R J A0 W l a w) (hR : ∀ i w w' v, Mv S w w' → R i w v → R i w' v) (hm : Mv S w w') {i : Nat} {o : Oper} (hi : ops[i]? = some o) (hd : o.dst = none) (hJJ : J (l.setIfInBounds i true) w') (haft : ∀ e ∈ o.after, Region.binds .any e = true → l.getD e.on false = true) :
    LJ ops S R J A0 W (l.setIfInBounds i true) a w' := by
  refine ⟨by simp [h.ls], h.sz, h.df, h.mv.trans hm (fun _ h => .inl h), h.fr, fun j o' d' hj hlj hd' => ?_, hJJ, cl_set h.cl hi haft⟩
  rcases getD_set' hlj with e | hlj
  · subst e
    rw [hi] at hj
    cases hj
    rw [hd] at hd'
    cases hd'
  · obtain ⟨u, h1, h2⟩ := h.tv j o' d' hj hlj hd'
    exact ⟨u, h1, hR _ _ _ _ hm h2⟩

/-- THE LAW. -/
theorem wp_regJ {ops : Array Oper} {A0 : Act} {W : World} {Q : Exit → Act → World → Prop} {id : Nat} (S : Nat → Prop) (R : Nat → World → Value → Prop) (J : Array Bool → World → Prop) (hR : ∀ i w w' v, Mv S w w' → R i w v → R i w' v)
    (hJ : ∀ (l : Array Bool) (i : Nat) (o : Oper) (d : Nat) (w w' : World), ops[i]? = some o → o.dst = some d → Nu w w' → J l w → J (l.setIfInBounds i true) w') (hF : Try.prog.follows Departure.mixedOrders = true) (hk : regB ops A0.tmps.size = true) (h0 : J (Array.replicate ops.size false) W.drew)
    (hstep : ∀ (l : Array Bool) (i : Nat) (o : Oper) (d : Nat) (a : Act) (w : World), ops[i]? = some o → o.dst = some d → l.getD i false = false → (∀ e ∈ o.after, Region.binds .any e = true → l.getD e.on false = true) → (∀ (i : Nat) (o : Oper), ops[i]? = some o → l.getD i false = true → ∀ e ∈ o.after, Region.binds .any e = true → l.getD e.on false = true) → Mv S W w → J l w → (∀ j : Nat, (ops.toList.all fun o => o.dst != some j) = true → a.tmps[j]? = A0.tmps[j]?) → HadR R a w (waits ops o) →
      ∀ K : Act → World → Prop, (∀ w' v, Nu w w' → R i w' v → K ⟨a.tmps.setIfInBounds d v, a.defers⟩ w') → if Region.wanted o (yielded ops a.tmps) = true then Oper.wp Try.prog o a w K Q else K (a.put o.dst undef) w)
    (hstore : ∀ (l : Array Bool) (i : Nat) (o : Oper) (a : Act) (w : World), ops[i]? = some o → o.dst = none → l.size = ops.size → (∀ e ∈ o.after, Region.binds .any e = true → l.getD e.on false = true) → (∀ (i : Nat) (o : Oper), ops[i]? = some o → l.getD i false = true → ∀ e ∈ o.after, Region.binds .any e = true → l.getD e.on false = true) → Mv S W w → J l w → (∀ j : Nat, (ops.toList.all fun o => o.dst != some j) = true → a.tmps[j]? = A0.tmps[j]?) → HadR R a w (waits ops o) →
      ∀ K : Act → World → Prop, (∀ w', Mv S w w' → J (l.setIfInBounds i true) w' → K a w') → Oper.wp Try.prog o a w K Q)
    (hQ : ∀ l a w, l.size = ops.size → (∀ i, i < ops.size → l.getD i false = true) → Mv S W w → J l w → a.defers = A0.defers → a.tmps.size = A0.tmps.size → (∀ j : Nat, (∀ (i : Nat) (o : Oper), ops[i]? = some o → o.dst ≠ some j) → a.tmps[j]? = A0.tmps[j]?) → (∀ (i : Nat) (o : Oper) (d : Nat), ops[i]? = some o → o.dst = some d → ∃ v, a.tmps[d]? = some v ∧ R i w v) → Q .normal a w) :
    Code.wp Try.prog (Code.region id ops true) Q A0 W := by
  have hk' := hk
  simp only [regB, Bool.and_eq_true, List.all_eq_true] at hk'
  have hfalse : ∀ i, (Array.replicate ops.size false).getD i false = false := fun i => by
    rw [Array.getD_eq_getD_getElem?, Array.getElem?_replicate]
    split <;> rfl
  have hahead : ∀ (i : Nat) o, ops[i]? = some o → ∀ e ∈ o.after, Region.binds .any e = true → e.on < i := fun i o ho e he hb => by
    have := aheadB_of hk'.2 i o (by rw [Array.getElem?_toList]; exact ho) e he hb
    omega
  have hfrm : ∀ {l : Array Bool} {a : Act} {w : World}, LJ ops S R J A0 W l a w → ∀ j : Nat, (ops.toList.all fun o => o.dst != some j) = true → a.tmps[j]? = A0.tmps[j]? := fun hI j hj => hI.fr j (fun i' o' ho' => by
    rw [List.all_eq_true] at hj
    have := hj o' (Array.mem_toList_iff.2 (Array.mem_of_getElem? ho'))
    simpa using this)
  refine wp_region_inv hF (LJ ops S R J A0 W) ?_ ?_ ?_
  · exact ⟨by simp, rfl, rfl, Mv.drew _ _, fun _ _ => rfl, fun i _ _ _ hl => absurd hl (by rw [hfalse]; simp), h0, fun i _ _ hl => absurd hl (by rw [hfalse]; simp)⟩
  · intro l a w hI hrd
    have hall : ∀ i, i < ops.size → l.getD i false = true := by
      intro i
      induction i using Nat.strongRecOn with
      | _ i ih =>
        intro hi
        cases hg : l.getD i false with
        | true => rfl
        | false =>
          exfalso
          have hmem : i ∈ Region.ready .any ops l := by
            unfold Region.ready
            rw [List.mem_filter]
            refine ⟨List.mem_range.2 hi, ?_⟩
            obtain ⟨o, ho⟩ : ∃ o, ops[i]? = some o := ⟨_, Array.getElem?_eq_getElem hi⟩
            have hgt : l.getD i true = false := by
              have hls := hI.ls
              rw [Array.getD_eq_getD_getElem?, Array.getElem?_eq_getElem (by omega)] at hg ⊢
              simpa using hg
            rw [hgt, ho]
            simp only [Bool.not_false, Bool.true_and, Option.map_some, Option.getD_some]
            rw [Array.all_eq_true']
            intro e he
            cases hb : Region.binds .any e with
            | false => simp
            | true => rw [ih e.on (hahead i o ho e he hb) (by have := hahead i o ho e he hb; omega)]; simp
          rw [hrd] at hmem
          cases hmem
    exact hQ l a w hI.ls hall hI.mv hI.j hI.df hI.sz hI.fr (fun i o d ho hd => hI.tv i o d ho (hall i (Array.getElem?_eq_some_iff.1 ho).1) hd)
  · intro l a w i o hI ho hli haft
    have hli' : l.getD i false = false := by
      rw [Array.getD_eq_getD_getElem?] at hli ⊢
      cases hg : l[i]? with
      | none => rfl
      | some b => rw [hg] at hli; simpa using hli
    have hhad := hadR_of (R := R) (a := a) (w := w) hI.tv (o.after.toList.filter (Region.binds .any)) (fun e he => by
      rw [List.mem_filter] at he
      exact haft e (Array.mem_toList_iff.1 he.1) he.2)
    cases hd : o.dst with
    | some d =>
      have := hstep l i o d a w ho hd hli' haft hI.cl hI.mv hI.j (hfrm hI) hhad (LJ ops S R J A0 W (l.setIfInBounds i true)) (fun w' v hm hv => hI.put hR hk hm ho hd hv (hJ l i o d w w' ho hd hm hI.j) haft)
      rwa [hd] at this
    | none =>
      have hg : o.guard = none := by
        have := hk'.1.2 o (Array.mem_toList_iff.2 (Array.mem_of_getElem? ho))
        rw [hd] at this
        simpa using this
      rw [if_pos (want_none hg)]
      exact hstore l i o a w ho hd hI.ls haft hI.cl hI.mv hI.j (hfrm hI) hhad (LJ ops S R J A0 W (l.setIfInBounds i true)) (fun w' hm hj => hI.store hR hm ho hd hj haft)

theorem getD_set_ne {l : Array Bool} {i j : Nat} (h : j ≠ i) : (l.setIfInBounds i true).getD j false = l.getD j false := by
  rw [Array.getD_eq_getD_getElem?, Array.getElem?_setIfInBounds_ne (fun e => h e.symm), ← Array.getD_eq_getD_getElem?]
theorem getD_set_self {l : Array Bool} {i : Nat} (h : i < l.size) : (l.setIfInBounds i true).getD i false = true := by
  rw [Array.getD_eq_getD_getElem?, Array.getElem?_setIfInBounds_self]
  simp [h]
theorem getD_none {n i : Nat} : (Array.replicate n false).getD i false = false := by
  rw [Array.getD_eq_getD_getElem?, Array.getElem?_replicate]
  split <;> rfl

/-- The slots behind such a region, written out. -/
theorem fill_eqN {ops : Array Oper} {A0 a : Act} {vals : Nat → Value} (hk : regB ops A0.tmps.size = true) (hfr : ∀ j : Nat, (∀ (i : Nat) (o : Oper), ops[i]? = some o → o.dst ≠ some j) → a.tmps[j]? = A0.tmps[j]?)
    (htv : ∀ (i : Nat) (o : Oper) (d : Nat), ops[i]? = some o → o.dst = some d → a.tmps[d]? = some (vals i)) : a.tmps = fill vals ops.toList 0 A0.tmps := by
  have hk' := hk
  simp only [regB, Bool.and_eq_true, List.all_eq_true] at hk'
  obtain ⟨⟨hap, hdst⟩, _⟩ := hk'
  have key : ∀ (l : List Oper) (k : Nat) (t : Array Value) (i : Nat) (o : Oper) (d : Nat), apartN l = true → l[i]? = some o → o.dst = some d → d < t.size → (fill vals l k t)[d]? = some (vals (k + i)) := by
    intro l
    induction l with
    | nil => intro k t i o d _ h; simp at h
    | cons p l ih =>
      intro k t i o d ha hi hd hlt
      have ha' := ha
      simp only [apartN, Bool.and_eq_true] at ha
      cases i with
      | zero =>
        simp at hi
        subst hi
        rw [fill, fill_other vals (fun i o' ho e => ?_)]
        · rw [hd]
          simp [hlt]
        · have := apartN_of ha' 0 (i + 1) p o' d rfl (by simpa using ho) hd e
          omega
      | succ i =>
        rw [fill, ih (k + 1) _ i o d ha.2 (by simpa using hi) hd (by cases p.dst <;> simpa using hlt)]
        congr 2
        omega
  apply Array.ext_getElem?
  intro j
  by_cases hj : ∃ (i : Nat) (o : Oper), ops[i]? = some o ∧ o.dst = some j
  · obtain ⟨i, o, ho, hd⟩ := hj
    have hlt : j < A0.tmps.size := by
      have := hdst o (Array.mem_toList_iff.2 (Array.mem_of_getElem? ho))
      rw [hd] at this
      simpa using this
    rw [htv i o j ho hd, key _ 0 _ i o j hap (by rw [Array.getElem?_toList]; exact ho) hd hlt, Nat.zero_add]
  · rw [hfr j (fun i o ho hd => hj ⟨i, o, ho, hd⟩), fill_other vals (fun i o ho hd => hj ⟨i, o, by rw [← Array.getElem?_toList]; exact ho, hd⟩)]

end Go.Proofs.Ytcpgpiokjghcnaa
