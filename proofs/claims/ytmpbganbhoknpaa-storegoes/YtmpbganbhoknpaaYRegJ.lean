/-
  A region that draws its order, looks, makes memory and stores: what each operation's value is like, told by a relation; what the stores have left, told by J of what was done. No order is gone through.
-/
import Derived.Test.YtmpbganbhoknpaaYLooksS
set_option linter.unusedSimpArgs false
set_option linter.unusedVariables false
namespace Go.Proofs.Ytmpbganbhoknpaa
open Go.RowKit

def apartN : List Oper → Bool
  | [] => true
  | o :: l => (o.dst.isNone || l.all fun q => q.dst != o.dst) && apartN l
def regB (ops : Array Oper) (N : Nat) : Bool := apartN ops.toList && (ops.toList.all fun o => match o.dst with | some d => decide (d < N) | none => o.guard.isNone) && aheadB 0 ops.toList

theorem apartN_of : ∀ {l : List Oper}, apartN l = true → ∀ (i j : Nat) o o' d, l[i]? = some o → l[j]? = some o' → o.dst = some d → o'.dst = some d → i = j := by
  intro l
  induction l with
  | nil => intro _ i j o o' d h; simp at h
  | cons p l ih =>
    intro h i j o o' d hi hj hd hd'
    simp only [apartN, Bool.and_eq_true, Bool.or_eq_true, List.all_eq_true] at h
    have hne : ∀ q ∈ l, p.dst = some d → q.dst ≠ p.dst := fun q hq hp => by
      rcases h.1 with h1 | h1
      · rw [hp] at h1; cases h1
      · simpa using h1 q hq
    cases i with
    | zero =>
      simp at hi; subst hi
      cases j with
      | zero => rfl
      | succ j => exact absurd (by rw [hd, hd']) (hne o' (List.mem_of_getElem? (by simpa using hj)) hd)
    | succ i =>
      cases j with
      | zero => simp at hj; subst hj; exact absurd (by rw [hd, hd']) (hne o (List.mem_of_getElem? (by simpa using hi)) hd')
      | succ j => rw [ih h.2 i j o o' d (by simpa using hi) (by simpa using hj) hd hd']

/-- What is known on the way. -/
structure LJ (ops : Array Oper) (S : Nat → Prop) (R : Nat → World → Value → Prop) (J : Array Bool → World → Prop) (A0 : Act) (W : World) (l : Array Bool) (a : Act) (w : World) : Prop where
  ls : l.size = ops.size
  sz : a.tmps.size = A0.tmps.size
  df : a.defers = A0.defers
  mv : Mv S W w
  fr : ∀ j : Nat, (∀ (i : Nat) (o : Oper), ops[i]? = some o → o.dst ≠ some j) → a.tmps[j]? = A0.tmps[j]?
  tv : ∀ (i : Nat) (o : Oper) (d : Nat), ops[i]? = some o → l.getD i false = true → o.dst = some d → ∃ v, a.tmps[d]? = some v ∧ R i w v
  j : J l w
  cl : ∀ (i : Nat) (o : Oper), ops[i]? = some o → l.getD i false = true → ∀ e ∈ o.after, Region.binds .any e = true → l.getD e.on false = true

theorem cl_set {ops : Array Oper} {l : Array Bool} (cl : ∀ (i : Nat) (o : Oper), ops[i]? = some o → l.getD i false = true → ∀ e ∈ o.after, Region.binds .any e = true → l.getD e.on false = true) {i : Nat} {o : Oper} (hi : ops[i]? = some o) (haft : ∀ e ∈ o.after, Region.binds .any e = true → l.getD e.on false = true) :
    ∀ (j : Nat) (p : Oper), ops[j]? = some p → (l.setIfInBounds i true).getD j false = true → ∀ e ∈ p.after, Region.binds .any e = true → (l.setIfInBounds i true).getD e.on false = true := by
  intro j p hj hl e he hb
  have hget : ∀ k, l.getD k false = true → (l.setIfInBounds i true).getD k false = true := fun k hk => by
    by_cases hki : k = i
    · subst hki
      rw [Array.getD_eq_getD_getElem?] at hk ⊢
      cases hg : l[k]? with
      | none => rw [hg] at hk; cases hk
      | some b =>
        have hlt := (Array.getElem?_eq_some_iff.1 hg).1
        rw [Array.getElem?_setIfInBounds_self]
        simp [hlt]
    · rw [Array.getD_eq_getD_getElem?, Array.getElem?_setIfInBounds_ne (fun e => hki e.symm), ← Array.getD_eq_getD_getElem?]
      exact hk
  rcases getD_set' hl with e' | hl
  · subst e'
    rw [hi] at hj
    cases hj
    exact hget _ (haft e he hb)
  · exact hget _ (cl j p hj hl e he hb)

theorem LJ.put {ops : Array Oper} {S : Nat → Prop} {R : Nat → World → Value → Prop} {J : Array Bool → World → Prop} {A0 : Act} {W : World} {l : Array Bool} {a : Act} {w w' : World} {v : Value} (h : LJ ops S R J A0 W l a w) (hR : ∀ i w w' v, Mv S w w' → R i w v → R i w' v) (hk : regB ops A0.tmps.size = true) (hm : Nu w w') {i : Nat} {o : Oper} {d : Nat} (hi : ops[i]? = some o) (hd : o.dst = some d) (hv : R i w' v) (hJJ : J (l.setIfInBounds i true) w') (haft : ∀ e ∈ o.after, Region.binds .any e = true → l.getD e.on false = true) :
    LJ ops S R J A0 W (l.setIfInBounds i true) ⟨a.tmps.setIfInBounds d v, a.defers⟩ w' := by
  simp only [regB, Bool.and_eq_true, List.all_eq_true] at hk
  have hm' : Mv S w w' := hm.mono (fun _ h => h.elim)
  have hlt : d < a.tmps.size := by
    have := hk.1.2 o (Array.mem_toList_iff.2 (Array.mem_of_getElem? hi))
    rw [hd] at this
    rw [h.sz]
    simpa using this
  refine ⟨by simp [h.ls], by simp [h.sz], h.df, nu_mv h.mv hm, fun j hj => ?_, fun j o' d' hj hlj hd' => ?_, hJJ, cl_set h.cl hi haft⟩
  · have hne : d ≠ j := fun e => hj i o hi (by rw [hd, e])
    rw [Array.getElem?_setIfInBounds_ne hne]
    exact h.fr j hj
  · by_cases hji : j = i
    · subst hji
      rw [hi] at hj
      cases hj
      rw [hd] at hd'
      cases hd'
      exact ⟨v, by rw [Array.getElem?_setIfInBounds_self]; simp [hlt], hv⟩
    · rcases getD_set' hlj with e | hlj
      · exact absurd e hji
      · have hne : d ≠ d' := fun e => hji (apartN_of hk.1.1 j i o' o d (by rw [Array.getElem?_toList]; exact hj) (by rw [Array.getElem?_toList]; exact hi) (by rw [e]; exact hd') hd)
        obtain ⟨u, h1, h2⟩ := h.tv j o' d' hj hlj hd'
        exact ⟨u, by rw [Array.getElem?_setIfInBounds_ne hne]; exact h1, hR _ _ _ _ hm' h2⟩

theorem LJ.store {ops : Array Oper} {S : Nat → Prop} {R : Nat → World → Value → Prop} {J : Array Bool → World → Prop} {A0 : Act} {W : World} {l : Array Bool} {a : Act} {w w' : World} (h : LJ ops S R J A0 W l a w) (hR : ∀ i w w' v, Mv S w w' → R i w v → R i w' v) (hm : Mv S w w') {i : Nat} {o : Oper} (hi : ops[i]? = some o) (hd : o.dst = none) (hJJ : J (l.setIfInBounds i true) w') (haft : ∀ e ∈ o.after, Region.binds .any e = true → l.getD e.on false = true) :
    LJ ops S R J A0 W (l.setIfInBounds i true) a w' := by
  refine ⟨by simp [h.ls], h.sz, h.df, h.mv.trans hm (fun _ h => .inl h), h.fr, fun j o' d' hj hlj hd' => ?_, hJJ, cl_set h.cl hi haft⟩
  rcases getD_set' hlj with e | hlj
  · subst e
    rw [hi] at hj
    cases hj
    rw [hd] at hd'
    cases hd'
  · obtain ⟨u, h1, h2⟩ := h.tv j o' d' hj hlj hd'
    exact ⟨u, h1, hR _ _ _ _ hm h2⟩

/-- THE LAW. -/
theorem wp_regJ {ops : Array Oper} {A0 : Act} {W : World} {Q : Exit → Act → World → Prop} {id : Nat} (S : Nat → Prop) (R : Nat → World → Value → Prop) (J : Array Bool → World → Prop) (hR : ∀ i w w' v, Mv S w w' → R i w v → R i w' v)
    (hJ : ∀ (l : Array Bool) (i : Nat) (o : Oper) (d : Nat) (w w' : World), ops[i]? = some o → o.dst = some d → Nu w w' → J l w → J (l.setIfInBounds i true) w') (hF : Try.prog.follows Departure.mixedOrders = true) (hk : regB ops A0.tmps.size = true) (h0 : J (Array.replicate ops.size false) W.drew)
    (hstep : ∀ (l : Array Bool) (i : Nat) (o : Oper) (d : Nat) (a : Act) (w : World), ops[i]? = some o → o.dst = some d → l.getD i false = false → (∀ e ∈ o.after, Region.binds .any e = true → l.getD e.on false = true) → (∀ (i : Nat) (o : Oper), ops[i]? = some o → l.getD i false = true → ∀ e ∈ o.after, Region.binds .any e = true → l.getD e.on false = true) → Mv S W w → J l w → (∀ j : Nat, (ops.toList.all fun o => o.dst != some j) = true → a.tmps[j]? = A0.tmps[j]?) → HadR R a w (waits ops o) →
      ∀ K : Act → World → Prop, (∀ w' v, Nu w w' → R i w' v → K ⟨a.tmps.setIfInBounds d v, a.defers⟩ w') → if Region.wanted o (yielded ops a.tmps) = true then Oper.wp Try.prog o a w K Q else K (a.put o.dst undef) w)
    (hstore : ∀ (l : Array Bool) (i : Nat) (o : Oper) (a : Act) (w : World), ops[i]? = some o → o.dst = none → l.size = ops.size → (∀ e ∈ o.after, Region.binds .any e = true → l.getD e.on false = true) → (∀ (i : Nat) (o : Oper), ops[i]? = some o → l.getD i false = true → ∀ e ∈ o.after, Region.binds .any e = true → l.getD e.on false = true) → Mv S W w → J l w → (∀ j : Nat, (ops.toList.all fun o => o.dst != some j) = true → a.tmps[j]? = A0.tmps[j]?) → HadR R a w (waits ops o) →
      ∀ K : Act → World → Prop, (∀ w', Mv S w w' → J (l.setIfInBounds i true) w' → K a w') → Oper.wp Try.prog o a w K Q)
    (hQ : ∀ l a w, l.size = ops.size → (∀ i, i < ops.size → l.getD i false = true) → Mv S W w → J l w → a.defers = A0.defers → a.tmps.size = A0.tmps.size → (∀ j : Nat, (∀ (i : Nat) (o : Oper), ops[i]? = some o → o.dst ≠ some j) → a.tmps[j]? = A0.tmps[j]?) → (∀ (i : Nat) (o : Oper) (d : Nat), ops[i]? = some o → o.dst = some d → ∃ v, a.tmps[d]? = some v ∧ R i w v) → Q .normal a w) :
    Code.wp Try.prog (Code.region id ops true) Q A0 W := by
  have hk' := hk
  simp only [regB, Bool.and_eq_true, List.all_eq_true] at hk'
  have hfalse : ∀ i, (Array.replicate ops.size false).getD i false = false := fun i => by
    rw [Array.getD_eq_getD_getElem?, Array.getElem?_replicate]
    split <;> rfl
  have hahead : ∀ (i : Nat) o, ops[i]? = some o → ∀ e ∈ o.after, Region.binds .any e = true → e.on < i := fun i o ho e he hb => by
    have := aheadB_of hk'.2 i o (by rw [Array.getElem?_toList]; exact ho) e he hb
    omega
  have hfrm : ∀ {l : Array Bool} {a : Act} {w : World}, LJ ops S R J A0 W l a w → ∀ j : Nat, (ops.toList.all fun o => o.dst != some j) = true → a.tmps[j]? = A0.tmps[j]? := fun hI j hj => hI.fr j (fun i' o' ho' => by
    rw [List.all_eq_true] at hj
    have := hj o' (Array.mem_toList_iff.2 (Array.mem_of_getElem? ho'))
    simpa using this)
  refine wp_region_inv hF (LJ ops S R J A0 W) ?_ ?_ ?_
  · exact ⟨by simp, rfl, rfl, Mv.drew _ _, fun _ _ => rfl, fun i _ _ _ hl => absurd hl (by rw [hfalse]; simp), h0, fun i _ _ hl => absurd hl (by rw [hfalse]; simp)⟩
  · intro l a w hI hrd
    have hall : ∀ i, i < ops.size → l.getD i false = true := by
      intro i
      induction i using Nat.strongRecOn with
      | _ i ih =>
        intro hi
        cases hg : l.getD i false with
        | true => rfl
        | false =>
          exfalso
          have hmem : i ∈ Region.ready .any ops l := by
            unfold Region.ready
            rw [List.mem_filter]
            refine ⟨List.mem_range.2 hi, ?_⟩
            obtain ⟨o, ho⟩ : ∃ o, ops[i]? = some o := ⟨_, Array.getElem?_eq_getElem hi⟩
            have hgt : l.getD i true = false := by
              have hls := hI.ls
              rw [Array.getD_eq_getD_getElem?, Array.getElem?_eq_getElem (by omega)] at hg ⊢
              simpa using hg
            rw [hgt, ho]
            simp only [Bool.not_false, Bool.true_and, Option.map_some, Option.getD_some]
            rw [Array.all_eq_true']
            intro e he
            cases hb : Region.binds .any e with
            | false => simp
            | true => rw [ih e.on (hahead i o ho e he hb) (by have := hahead i o ho e he hb; omega)]; simp
          rw [hrd] at hmem
          cases hmem
    exact hQ l a w hI.ls hall hI.mv hI.j hI.df hI.sz hI.fr (fun i o d ho hd => hI.tv i o d ho (hall i (Array.getElem?_eq_some_iff.1 ho).1) hd)
  · intro l a w i o hI ho hli haft
    have hli' : l.getD i false = false := by
      rw [Array.getD_eq_getD_getElem?] at hli ⊢
      cases hg : l[i]? with
      | none => rfl
      | some b => rw [hg] at hli; simpa using hli
    have hhad := hadR_of (R := R) (a := a) (w := w) hI.tv (o.after.toList.filter (Region.binds .any)) (fun e he => by
      rw [List.mem_filter] at he
      exact haft e (Array.mem_toList_iff.1 he.1) he.2)
    cases hd : o.dst with
    | some d =>
      have := hstep l i o d a w ho hd hli' haft hI.cl hI.mv hI.j (hfrm hI) hhad (LJ ops S R J A0 W (l.setIfInBounds i true)) (fun w' v hm hv => hI.put hR hk hm ho hd hv (hJ l i o d w w' ho hd hm hI.j) haft)
      rwa [hd] at this
    | none =>
      have hg : o.guard = none := by
        have := hk'.1.2 o (Array.mem_toList_iff.2 (Array.mem_of_getElem? ho))
        rw [hd] at this
        simpa using this
      rw [if_pos (want_none hg)]
      exact hstore l i o a w ho hd hI.ls haft hI.cl hI.mv hI.j (hfrm hI) hhad (LJ ops S R J A0 W (l.setIfInBounds i true)) (fun w' hm hj => hI.store hR hm ho hd hj haft)

theorem getD_set_ne {l : Array Bool} {i j : Nat} (h : j ≠ i) : (l.setIfInBounds i true).getD j false = l.getD j false := by
  rw [Array.getD_eq_getD_getElem?, Array.getElem?_setIfInBounds_ne (fun e => h e.symm), ← Array.getD_eq_getD_getElem?]
theorem getD_set_self {l : Array Bool} {i : Nat} (h : i < l.size) : (l.setIfInBounds i true).getD i false = true := by
  rw [Array.getD_eq_getD_getElem?, Array.getElem?_setIfInBounds_self]
  simp [h]
theorem getD_none {n i : Nat} : (Array.replicate n false).getD i false = false := by
  rw [Array.getD_eq_getD_getElem?, Array.getElem?_replicate]
  split <;> rfl

/-- The slots behind such a region, written out. -/
theorem fill_eqN {ops : Array Oper} {A0 a : Act} {vals : Nat → Value} (hk : regB ops A0.tmps.size = true) (hfr : ∀ j : Nat, (∀ (i : Nat) (o : Oper), ops[i]? = some o → o.dst ≠ some j) → a.tmps[j]? = A0.tmps[j]?)
    (htv : ∀ (i : Nat) (o : Oper) (d : Nat), ops[i]? = some o → o.dst = some d → a.tmps[d]? = some (vals i)) : a.tmps = fill vals ops.toList 0 A0.tmps := by
  have hk' := hk
  simp only [regB, Bool.and_eq_true, List.all_eq_true] at hk'
  obtain ⟨⟨hap, hdst⟩, _⟩ := hk'
  have key : ∀ (l : List Oper) (k : Nat) (t : Array Value) (i : Nat) (o : Oper) (d : Nat), apartN l = true → l[i]? = some o → o.dst = some d → d < t.size → (fill vals l k t)[d]? = some (vals (k + i)) := by
    intro l
    induction l with
    | nil => intro k t i o d _ h; simp at h
    | cons p l ih =>
      intro k t i o d ha hi hd hlt
      have ha' := ha
      simp only [apartN, Bool.and_eq_true] at ha
      cases i with
      | zero =>
        simp at hi
        subst hi
        rw [fill, fill_other vals (fun i o' ho e => ?_)]
        · rw [hd]
          simp [hlt]
        · have := apartN_of ha' 0 (i + 1) p o' d rfl (by simpa using ho) hd e
          omega
      | succ i =>
        rw [fill, ih (k + 1) _ i o d ha.2 (by simpa using hi) hd (by cases p.dst <;> simpa using hlt)]
        congr 2
        omega
  apply Array.ext_getElem?
  intro j
  by_cases hj : ∃ (i : Nat) (o : Oper), ops[i]? = some o ∧ o.dst = some j
  · obtain ⟨i, o, ho, hd⟩ := hj
    have hlt : j < A0.tmps.size := by
      have := hdst o (Array.mem_toList_iff.2 (Array.mem_of_getElem? ho))
      rw [hd] at this
      simpa using this
    rw [htv i o j ho hd, key _ 0 _ i o j hap (by rw [Array.getElem?_toList]; exact ho) hd hlt, Nat.zero_add]
  · rw [hfr j (fun i o ho hd => hj ⟨i, o, ho, hd⟩), fill_other vals (fun i o ho hd => hj ⟨i, o, by rw [← Array.getElem?_toList]; exact ho, hd⟩)]

end Go.Proofs.Ytmpbganbhoknpaa
