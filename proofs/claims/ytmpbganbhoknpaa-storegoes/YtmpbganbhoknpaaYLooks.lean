/-
  A region that draws its order, looks and makes memory: what each operation's value is like, told by a relation that what is made besides keeps. (QLooks, QLooks2, QLooks4 over NKit.)
-/
import Derived.Test.YtmpbganbhoknpaaQInv
import Derived.Test.YtmpbganbhoknpaaYStM
set_option linter.unusedSimpArgs false
namespace Go.Proofs.Ytmpbganbhoknpaa
open Go.RowKit

theorem Mv.drew (S : Nat → Prop) (w : World) : Mv S w w.drew := ⟨rfl, rfl, rfl, Nat.le_refl _, fun _ _ _ => rfl⟩

/-- What of a region is told by its numbers. -/
def waits (ops : Array Oper) (o : Oper) : List (Nat × Nat) := (o.after.toList.filter (Region.binds .any)).filterMap fun e => ((ops[e.on]?).bind (·.dst)).map fun d => (d, e.on)
def apartO : List Oper → Bool
  | [] => true
  | o :: l => (l.all fun q => q.dst != o.dst) && apartO l
def aheadB (i : Nat) : List Oper → Bool
  | [] => true
  | o :: l => (o.after.toList.all fun e => !Region.binds .any e || decide (e.on < i)) && aheadB (i + 1) l
def looksB (ops : Array Oper) (N : Nat) : Bool := apartO ops.toList && (ops.toList.all fun o => match o.dst with | some d => decide (d < N) | none => false) && aheadB 0 ops.toList

theorem apartO_of : ∀ {l : List Oper}, apartO l = true → ∀ (i j : Nat) o o' d, l[i]? = some o → l[j]? = some o' → o.dst = some d → o'.dst = some d → i = j := by
  intro l
  induction l with
  | nil => intro _ i j o o' d h; simp at h
  | cons p l ih =>
    intro h i j o o' d hi hj hd hd'
    simp only [apartO, Bool.and_eq_true, List.all_eq_true] at h
    have hne : ∀ q ∈ l, q.dst ≠ p.dst := fun q hq => by simpa using h.1 q hq
    cases i with
    | zero =>
      simp at hi; subst hi
      cases j with
      | zero => rfl
      | succ j => exact absurd (by rw [hd, hd']) (hne o' (List.mem_of_getElem? (by simpa using hj)))
    | succ i =>
      cases j with
      | zero => simp at hj; subst hj; exact absurd (by rw [hd, hd']) (hne o (List.mem_of_getElem? (by simpa using hi)))
      | succ j => rw [ih h.2 i j o o' d (by simpa using hi) (by simpa using hj) hd hd']

theorem aheadB_of : ∀ {l : List Oper} {k : Nat}, aheadB k l = true → ∀ (i : Nat) o, l[i]? = some o → ∀ e ∈ o.after, Region.binds .any e = true → e.on < k + i := by
  intro l
  induction l with
  | nil => intro k _ i o h; simp at h
  | cons p l ih =>
    intro k h i o hi e he hb
    simp only [aheadB, Bool.and_eq_true, List.all_eq_true] at h
    cases i with
    | zero =>
      simp at hi; subst hi
      have := h.1 e (Array.mem_toList_iff.2 he)
      rw [hb] at this
      simpa using this
    | succ i =>
      have := ih h.2 i o (by simpa using hi) e he hb
      omega

theorem getD_set' {l : Array Bool} {i j : Nat} (h : (l.setIfInBounds i true).getD j false = true) : j = i ∨ l.getD j false = true := by
  by_cases hji : j = i
  · exact .inl hji
  · right
    rw [Array.getD_eq_getD_getElem?, Array.getElem?_setIfInBounds_ne (Ne.symm hji), ← Array.getD_eq_getD_getElem?] at h
    exact h

/-- The slots of the operations that are waited for, and what they hold. -/
def HadR (R : Nat → World → Value → Prop) (a : Act) (w : World) : List (Nat × Nat) → Prop
  | [] => True
  | p :: r => (∃ v, a.tmps[p.1]? = some v ∧ R p.2 w v) ∧ HadR R a w r

/-- What is known on the way. -/
structure LR (ops : Array Oper) (R : Nat → World → Value → Prop) (A0 : Act) (W : World) (l : Array Bool) (a : Act) (w : World) : Prop where
  ls : l.size = ops.size
  sz : a.tmps.size = A0.tmps.size
  df : a.defers = A0.defers
  nu : Nu W w
  fr : ∀ j : Nat, (∀ (i : Nat) (o : Oper), ops[i]? = some o → o.dst ≠ some j) → a.tmps[j]? = A0.tmps[j]?
  tv : ∀ (i : Nat) (o : Oper) (d : Nat), ops[i]? = some o → l.getD i false = true → o.dst = some d → ∃ v, a.tmps[d]? = some v ∧ R i w v

theorem hadR_of {ops : Array Oper} {R : Nat → World → Value → Prop} {a : Act} {w : World} {l : Array Bool} (tv : ∀ (i : Nat) (o : Oper) (d : Nat), ops[i]? = some o → l.getD i false = true → o.dst = some d → ∃ v, a.tmps[d]? = some v ∧ R i w v) :
    ∀ es : List Edge, (∀ e ∈ es, l.getD e.on false = true) → HadR R a w (es.filterMap fun e => ((ops[e.on]?).bind (·.dst)).map fun d => (d, e.on)) := by
  intro es
  induction es with
  | nil => exact fun _ => trivial
  | cons e es ih =>
    intro h
    have hr := ih (fun x hx => h x (List.mem_cons_of_mem _ hx))
    cases ho : ops[e.on]? with
    | none =>
      rw [List.filterMap_cons_none (by rw [ho]; rfl)]
      exact hr
    | some o =>
      cases hd : o.dst with
      | none =>
        rw [List.filterMap_cons_none (by rw [ho]; simp [hd])]
        exact hr
      | some d =>
        rw [List.filterMap_cons_some (b := (d, e.on)) (by rw [ho]; simp [hd])]
        exact And.intro (tv e.on o d ho (h e List.mem_cons_self) hd) hr

theorem LR.put {ops : Array Oper} {R : Nat → World → Value → Prop} {A0 : Act} {W : World} {l : Array Bool} {a : Act} {w w' : World} {v : Value} (h : LR ops R A0 W l a w) (hR : ∀ i w w' v, Nu w w' → R i w v → R i w' v) (hk : looksB ops A0.tmps.size = true) (hm : Nu w w') {i : Nat} {o : Oper} {d : Nat} (hi : ops[i]? = some o) (hd : o.dst = some d) (hv : R i w' v) :
    LR ops R A0 W (l.setIfInBounds i true) ⟨a.tmps.setIfInBounds d v, a.defers⟩ w' := by
  simp only [looksB, Bool.and_eq_true, List.all_eq_true] at hk
  have hlt : d < a.tmps.size := by
    have := hk.1.2 o (Array.mem_toList_iff.2 (Array.mem_of_getElem? hi))
    rw [hd] at this
    rw [h.sz]
    simpa using this
  refine ⟨by simp [h.ls], by simp [h.sz], h.df, mv0 h.nu hm, fun j hj => ?_, fun j o' d' hj hlj hd' => ?_⟩
  · have hne : d ≠ j := fun e => hj i o hi (by rw [hd, e])
    rw [Array.getElem?_setIfInBounds_ne hne]
    exact h.fr j hj
  · by_cases hji : j = i
    · subst hji
      rw [hi] at hj
      cases hj
      rw [hd] at hd'
      cases hd'
      exact ⟨v, by rw [Array.getElem?_setIfInBounds_self]; simp [hlt], hv⟩
    · rcases getD_set' hlj with e | hlj
      · exact absurd e hji
      · have hne : d ≠ d' := fun e => hji (apartO_of hk.1.1 j i o' o d (by rw [Array.getElem?_toList]; exact hj) (by rw [Array.getElem?_toList]; exact hi) (by rw [e]; exact hd') hd)
        obtain ⟨u, h1, h2⟩ := h.tv j o' d' hj hlj hd'
        exact ⟨u, by rw [Array.getElem?_setIfInBounds_ne hne]; exact h1, hR _ _ _ _ hm h2⟩

/-- THE LAW. -/
theorem wp_lookR {ops : Array Oper} {A0 : Act} {W : World} {Q : Exit → Act → World → Prop} {id : Nat} (R : Nat → World → Value → Prop) (hR : ∀ i w w' v, Nu w w' → R i w v → R i w' v) (hF : Try.prog.follows Departure.mixedOrders = true) (hk : looksB ops A0.tmps.size = true)
    (hstep : ∀ (i : Nat) (o : Oper) (d : Nat) (a : Act) (w : World), ops[i]? = some o → o.dst = some d → Nu W w → (∀ j : Nat, (ops.toList.all fun o => o.dst != some j) = true → a.tmps[j]? = A0.tmps[j]?) → HadR R a w (waits ops o) →
      ∀ K : Act → World → Prop, (∀ w' v, Nu w w' → R i w' v → K ⟨a.tmps.setIfInBounds d v, a.defers⟩ w') → if Region.wanted o (yielded ops a.tmps) = true then Oper.wp Try.prog o a w K Q else K (a.put o.dst undef) w)
    (hQ : ∀ a w, Nu W w → a.defers = A0.defers → a.tmps.size = A0.tmps.size → (∀ j : Nat, (∀ (i : Nat) (o : Oper), ops[i]? = some o → o.dst ≠ some j) → a.tmps[j]? = A0.tmps[j]?) → (∀ (i : Nat) (o : Oper) (d : Nat), ops[i]? = some o → o.dst = some d → ∃ v, a.tmps[d]? = some v ∧ R i w v) → Q .normal a w) :
    Code.wp Try.prog (Code.region id ops true) Q A0 W := by
  have hk' := hk
  simp only [looksB, Bool.and_eq_true, List.all_eq_true] at hk'
  have hfalse : ∀ i, (Array.replicate ops.size false).getD i false = false := fun i => by
    rw [Array.getD_eq_getD_getElem?, Array.getElem?_replicate]
    split <;> rfl
  have hahead : ∀ (i : Nat) o, ops[i]? = some o → ∀ e ∈ o.after, Region.binds .any e = true → e.on < i := fun i o ho e he hb => by
    have := aheadB_of hk'.2 i o (by rw [Array.getElem?_toList]; exact ho) e he hb
    omega
  refine wp_region_inv hF (LR ops R A0 W) ?_ ?_ ?_
  · exact ⟨by simp, rfl, rfl, Mv.drew _ _, fun _ _ => rfl, fun i _ _ _ hl => absurd hl (by rw [hfalse]; simp)⟩
  · intro l a w hI hrd
    have hall : ∀ i, i < ops.size → l.getD i false = true := by
      intro i
      induction i using Nat.strongRecOn with
      | _ i ih =>
        intro hi
        cases hg : l.getD i false with
        | true => rfl
        | false =>
          exfalso
          have hmem : i ∈ Region.ready .any ops l := by
            unfold Region.ready
            rw [List.mem_filter]
            refine ⟨List.mem_range.2 hi, ?_⟩
            obtain ⟨o, ho⟩ : ∃ o, ops[i]? = some o := ⟨_, Array.getElem?_eq_getElem hi⟩
            have hgt : l.getD i true = false := by
              have hls := hI.ls
              rw [Array.getD_eq_getD_getElem?, Array.getElem?_eq_getElem (by omega)] at hg ⊢
              simpa using hg
            rw [hgt, ho]
            simp only [Bool.not_false, Bool.true_and, Option.map_some, Option.getD_some]
            rw [Array.all_eq_true']
            intro e he
            cases hb : Region.binds .any e with
            | false => simp
            | true => rw [ih e.on (hahead i o ho e he hb) (by have := hahead i o ho e he hb; omega)]; simp
          rw [hrd] at hmem
          cases hmem
    exact hQ a w hI.nu hI.df hI.sz hI.fr (fun i o d ho hd => hI.tv i o d ho (hall i (Array.getElem?_eq_some_iff.1 ho).1) hd)
  · intro l a w i o hI ho _ haft
    have hdo : ∃ d, o.dst = some d := by
      have := hk'.1.2 o (Array.mem_toList_iff.2 (Array.mem_of_getElem? ho))
      cases hd : o.dst with
      | none => rw [hd] at this; cases this
      | some d => exact ⟨d, rfl⟩
    obtain ⟨d, hd⟩ := hdo
    refine hstep i o d a w ho hd hI.nu (fun j hj => hI.fr j (fun i' o' ho' => ?_)) (hadR_of hI.tv _ (fun e he => ?_)) (LR ops R A0 W (l.setIfInBounds i true)) (fun w' v hm hv => hI.put hR hk hm ho hd hv)
    · rw [List.all_eq_true] at hj
      have := hj o' (Array.mem_toList_iff.2 (Array.mem_of_getElem? ho'))
      simpa using this
    · rw [List.mem_filter] at he
      exact haft e (Array.mem_toList_iff.1 he.1) he.2

theorem ite_yes {c : Bool} {p q : Prop} (h : c = true) (hp : p) : if c = true then p else q := by rw [if_pos h]; exact hp
theorem ite_no {c : Bool} {p q : Prop} (h : c = false) (hq : q) : if c = true then p else q := by rw [if_neg (by simp [h])]; exact hq

theorem want_none {o : Oper} {y : Nat → Option Bool} (h : o.guard = none) : Region.wanted o y = true := by simp [Region.wanted, h]
theorem want_some {ops : Array Oper} {o o' : Oper} {a : Act} {j d : Nat} {b : Bool} (h : o.guard = some (j, b)) (ho : ops[j]? = some o') (hd : o'.dst = some d) (hv : a.tmps[d]? = some (.bool b)) : Region.wanted o (yielded ops a.tmps) = true := by
  simp [Region.wanted, h, yielded, ho, hd, hv]
theorem want_not {ops : Array Oper} {o o' : Oper} {a : Act} {j d : Nat} {b : Bool} (h : o.guard = some (j, b)) (ho : ops[j]? = some o') (hd : o'.dst = some d) (hv : a.tmps[d]? = some (.bool (!b))) : Region.wanted o (yielded ops a.tmps) = false := by
  simp [Region.wanted, h, yielded, ho, hd, hv]

section
variable {o : Oper} {a : Act} {w : World} {K : Act → World → Prop} {Q : Exit → Act → World → Prop} {d : Nat}

theorem lk_move {s : Nat} {v : Value} (hd : o.dst = some d) (ho : o.op = .move (.tmp s)) (hs : a.tmps[s]? = some v) (hK : ∀ w', Nu w w' → K ⟨a.tmps.setIfInBounds d v, a.defers⟩ w') : Oper.wp Try.prog o a w K Q := by
  have he : a.eval (.tmp s) = v := by simp [Act.eval, hs]
  unfold Oper.wp execOp
  simp only [ho, he, hd]
  go_simp
  exact hK w (Mv.refl _ _)

theorem lk_assign {s : Nat} {v : Value} (hd : o.dst = some d) (ho : o.op = .assign (.tmp s)) (hs : a.tmps[s]? = some v) (hK : ∀ w', Nu w w' → K ⟨a.tmps.setIfInBounds d v, a.defers⟩ w') : Oper.wp Try.prog o a w K Q := by
  have he : a.eval (.tmp s) = v := by simp [Act.eval, hs]
  unfold Oper.wp execOp
  simp only [ho, he, hd]
  go_simp
  exact hK w (Mv.refl _ _)

theorem lk_pickT {s r : Nat} {c v : Value} (hd : o.dst = some d) (ho : o.op = .pick (.tmp s) (.tmp r) (.const c)) (hs : a.tmps[s]? = some (.bool true)) (hr : a.tmps[r]? = some v) (hK : ∀ w', Nu w w' → K ⟨a.tmps.setIfInBounds d v, a.defers⟩ w') : Oper.wp Try.prog o a w K Q := by
  have he : a.eval (.tmp s) = .bool true := by simp [Act.eval, hs]
  have he' : a.eval (.tmp r) = v := by simp [Act.eval, hr]
  unfold Oper.wp execOp
  simp only [ho, hd]
  go_simp
  exact hK w (Mv.refl _ _)

end

end Go.Proofs.Ytmpbganbhoknpaa
