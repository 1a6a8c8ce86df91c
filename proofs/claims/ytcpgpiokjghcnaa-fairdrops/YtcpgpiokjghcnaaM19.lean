/-
  NRegIn, JTail, PrTail.
-/
import Derived.ControlIn
import Derived.OrdersIn
import Derived.Test.YtcpgpiokjghcnaaM16
/-
  A region that draws its order and holds a yield: all that is ahead of the yield by a relation, then the yield, then what is made of its answer.
-/
set_option linter.unusedSimpArgs false
set_option linter.unusedVariables false
namespace Go.Proofs.Ytcpgpiokjghcnaa
open Go.RowKit

theorem wpIn_of_op {n : Nat} {P : Program} {o : Oper} {a : Act} {w : World} {K : Act → World → Prop} {Q : Exit → Act → World → Prop} (h : Oper.wp P o a w K Q) : Oper.wpIn Fence.wide n P o a w K Q := by
  refine ⟨fun _ _ => trivial, ?_⟩
  show o.uponIn Fence.wide n P a K Q ((execOp a.eval o).run P w)
  unfold Oper.wp at h
  generalize (execOp a.eval o).run P w = r at *
  cases r with
  | ok x w' =>
    cases x with
    | value v => exact h
    | skip => exact h
    | defer d => exact h
    | enter f args => exact ⟨fun h => by simp [Fence.wide] at h, callsIn_wide.2 h⟩
    | row row args => exact ⟨fun h => by simp [Fence.wide] at h, fun c cs _ => let ⟨v, w', r, s⟩ := h c cs; ⟨v, w', r, stepsIn_wide.2 s⟩⟩
    | _ => exact h.elim
  | halt x w' => cases x <;> exact h

theorem wpAnyIn_inv {n : Nat} {P : Program} {md : Region.Mode} {ops : Array Oper} {Q : Exit → Act → World → Prop} (I : Array Bool → Act → World → Prop)
    (hend : ∀ l a w, I l a w → Region.ready md ops l = [] → Q .normal a w)
    (hstep : ∀ l a w i o, I l a w → ops[i]? = some o → l.getD i true = false → (∀ e ∈ o.after, Region.binds md e = true → l.getD e.on false = true) →
      if Region.wanted o (yielded ops a.tmps) = true then Oper.wpIn Fence.wide n P o a w (I (l.setIfInBounds i true)) Q else I (l.setIfInBounds i true) (a.put o.dst undef) w) :
    ∀ (fuel : Nat) (l : Array Bool) (a : Act) (w : World), unlisted l ≤ fuel → I l a w → wpAnyIn Fence.wide n P md ops Q fuel l a w := by
  intro fuel
  induction fuel with
  | zero => exact fun l a w hu hI => ⟨ready_none (by omega), hend l a w hI (ready_none (by omega))⟩
  | succ fuel ih =>
    intro l a w hu hI
    refine ⟨fun hr => hend l a w hI hr, fun i hi => ?_⟩
    obtain ⟨h1, o, ho, h2⟩ := ready_un hi
    have hs := hstep l a w i o hI ho h1 h2
    have hun := unlisted_set h1
    unfold wpOpIn
    simp only [ho]
    split at hs
    · rename_i hw
      rw [if_pos hw]
      exact Oper.wpIn_mono (fun a' w' h => ih _ a' w' (by omega) h) hs
    · rename_i hw
      rw [if_neg hw]
      exact ⟨fun _ _ => trivial, ih _ _ _ (by omega) hs⟩

theorem wpIn_region_inv {n : Nat} {P : Program} {ops : Array Oper} {Q : Exit → Act → World → Prop} {id : Nat} {a : Act} {w : World} (hP : P.follows Departure.mixedOrders = true) (I : Array Bool → Act → World → Prop) (h0 : I (Array.replicate ops.size false) a w.drew)
    (hend : ∀ l a w, I l a w → Region.ready Region.Mode.any ops l = [] → Q .normal a w)
    (hstep : ∀ l a w i o, I l a w → ops[i]? = some o → l.getD i true = false → (∀ e ∈ o.after, Region.binds Region.Mode.any e = true → l.getD e.on false = true) →
      if Region.wanted o (yielded ops a.tmps) = true then Oper.wpIn Fence.wide n P o a w (I (l.setIfInBounds i true)) Q else I (l.setIfInBounds i true) (a.put o.dst undef) w) :
    Code.wpIn Fence.wide n P (Code.region id ops true) Q a w :=
  wpIn_region_any hP (wpAnyIn_inv I hend hstep _ _ _ _ (by rw [unlisted_start]; exact Nat.le_refl _) h0)

/-- What of such a region is told by its numbers: y the yield, y + 1 the last one. -/
def yieldB (ops : Array Oper) (N y : Nat) : Bool :=
  apartO ops.toList && (ops.toList.all fun o => match o.dst with | some d => decide (d < N) && o.guard.isNone | none => false) && aheadB 0 ops.toList && (ops.size == y + 2) &&
  (match ops[y + 1]? with | some o => o.after.toList.any fun e => e.on == y && Region.binds .any e | none => false)

theorem bit_of {l : Array Bool} {i : Nat} (h : l.getD i true = false) : l.getD i false = false := by
  rw [Array.getD_eq_getD_getElem?] at h ⊢
  cases hg : l[i]? with
  | none => rfl
  | some b => rw [hg] at h; simpa using h

/-- What is waited for has been done. -/
def Closed (ops : Array Oper) (l : Array Bool) : Prop := ∀ (i : Nat) (o : Oper), ops[i]? = some o → l.getD i false = true → ∀ e ∈ o.after, Region.binds .any e = true → l.getD e.on false = true

/-- THE LAW. -/
theorem wpIn_yield {n : Nat} {ops : Array Oper} {A0 : Act} {W : World} {Q : Exit → Act → World → Prop} {id : Nat} (y dy dn : Nat) (oy on : Oper) (R : Nat → World → Value → Prop) (Fin : Bool → Act → World → Prop) (hR : ∀ i w w' v, Nu w w' → R i w v → R i w' v) (hF : Try.prog.follows Departure.mixedOrders = true) (hk : yieldB ops A0.tmps.size y = true)
    (hoy : ops[y]? = some oy) (hcl : ∀ l : Array Bool, Closed ops l → (∀ e ∈ oy.after, Region.binds .any e = true → l.getD e.on false = true) → ∀ i, i < y → l.getD i false = true) (hon : ops[y + 1]? = some on) (hdy : oy.dst = some dy) (hdn : on.dst = some dn) (hnot : ∀ (a : Act) (b : Bool) (w : World), a.eval (.tmp dy) = .bool b → (execOp a.eval on).run Try.prog w = .ok (.value (.bool (!b))) w)
    (hstep : ∀ (i : Nat) (o : Oper) (d : Nat) (a : Act) (w : World), i < y → ops[i]? = some o → o.dst = some d → Nu W w → (∀ j : Nat, (ops.toList.all fun o => o.dst != some j) = true → a.tmps[j]? = A0.tmps[j]?) → HadR R a w (waits ops o) →
      ∀ K : Act → World → Prop, (∀ w' v, Nu w w' → R i w' v → K ⟨a.tmps.setIfInBounds d v, a.defers⟩ w') → Oper.wpIn Fence.wide n Try.prog o a w K Q)
    (hyield : ∀ (a : Act) (w : World), Nu W w → a.defers = A0.defers → a.tmps.size = A0.tmps.size → (∀ j : Nat, (ops.toList.all fun o => o.dst != some j) = true → a.tmps[j]? = A0.tmps[j]?) → (∀ (i : Nat) (o : Oper) (d : Nat), i < y → ops[i]? = some o → o.dst = some d → ∃ v, a.tmps[d]? = some v ∧ R i w v) →
      Oper.wpIn Fence.wide n Try.prog oy a w (fun a' w' => ∃ b, a' = ⟨a.tmps.setIfInBounds dy (.bool b), a.defers⟩ ∧ Fin b a w') Q)
    (hQ : ∀ b a w', a.tmps.size = A0.tmps.size → Fin b a w' → Q .normal ⟨(a.tmps.setIfInBounds dy (.bool b)).setIfInBounds dn (.bool (!b)), a.defers⟩ w') :
    Code.wpIn Fence.wide n Try.prog (Code.region id ops true) Q A0 W := by
  have hk' := hk
  simp only [yieldB, Bool.and_eq_true, List.all_eq_true, beq_iff_eq] at hk'
  obtain ⟨⟨⟨⟨hap, hdst⟩, hahd⟩, hsz⟩, hna⟩ := hk'
  rw [hon] at hna
  have hfalse : ∀ i, (Array.replicate ops.size false).getD i false = false := fun i => getD_none
  have hahead : ∀ (i : Nat) o, ops[i]? = some o → ∀ e ∈ o.after, Region.binds .any e = true → e.on < i := fun i o ho e he hb => by
    have := aheadB_of hahd i o (by rw [Array.getElem?_toList]; exact ho) e he hb
    omega
  have hdsts : ∀ (i : Nat) o, ops[i]? = some o → ∃ d, o.dst = some d ∧ d < A0.tmps.size ∧ o.guard = none := fun i o ho => by
    have := hdst o (Array.mem_toList_iff.2 (Array.mem_of_getElem? ho))
    cases hd : o.dst with
    | none => rw [hd] at this; cases this
    | some d =>
      rw [hd] at this
      simp only [Bool.and_eq_true, decide_eq_true_eq] at this
      exact ⟨d, rfl, this.1, by simpa using this.2⟩
  have hfrm : ∀ {l : Array Bool} {a : Act} {w : World}, LR ops R A0 W l a w → ∀ j : Nat, (ops.toList.all fun o => o.dst != some j) = true → a.tmps[j]? = A0.tmps[j]? := fun hI j hj => hI.fr j (fun i' o' ho' => by
    rw [List.all_eq_true] at hj
    have := hj o' (Array.mem_toList_iff.2 (Array.mem_of_getElem? ho'))
    simpa using this)
  have hdylt : dy < A0.tmps.size := by
    obtain ⟨d, hd, hlt, _⟩ := hdsts y oy hoy
    rw [hdy] at hd
    cases hd
    exact hlt
  refine wpIn_region_inv hF (fun l a w => (l.getD y false = false ∧ l.getD (y + 1) false = false ∧ Closed ops l ∧ LR ops R A0 W l a w) ∨ (l.size = ops.size ∧ (∀ i, i ≤ y → l.getD i false = true) ∧ l.getD (y + 1) false = false ∧ ∃ b a0, a = ⟨a0.tmps.setIfInBounds dy (.bool b), a0.defers⟩ ∧ a0.tmps.size = A0.tmps.size ∧ Fin b a0 w) ∨ (l.size = ops.size ∧ (∀ i, i < ops.size → l.getD i false = true) ∧ Q .normal a w)) ?_ ?_ ?_
  · exact .inl ⟨hfalse _, hfalse _, fun i _ _ hl => absurd hl (by rw [hfalse]; simp), by simp, rfl, rfl, Mv.drew _ _, fun _ _ => rfl, fun i _ _ _ hl => absurd hl (by rw [hfalse]; simp)⟩
  · intro l a w hI hrd
    have hls : l.size = ops.size := by
      rcases hI with ⟨_, _, _, h⟩ | ⟨h, _⟩ | ⟨h, _⟩
      · exact h.ls
      · exact h
      · exact h
    have hall : ∀ i, i < ops.size → l.getD i false = true := by
      intro i
      induction i using Nat.strongRecOn with
      | _ i ih =>
        intro hi
        cases hg : l.getD i false with
        | true => rfl
        | false =>
          exfalso
          have hmem : i ∈ Region.ready .any ops l := by
            unfold Region.ready
            rw [List.mem_filter]
            refine ⟨List.mem_range.2 hi, ?_⟩
            obtain ⟨o, ho⟩ : ∃ o, ops[i]? = some o := ⟨_, Array.getElem?_eq_getElem hi⟩
            have hgt : l.getD i true = false := by
              rw [Array.getD_eq_getD_getElem?, Array.getElem?_eq_getElem (by omega)] at hg ⊢
              simpa using hg
            rw [hgt, ho]
            simp only [Bool.not_false, Bool.true_and, Option.map_some, Option.getD_some]
            rw [Array.all_eq_true']
            intro e he
            cases hb : Region.binds .any e with
            | false => simp
            | true => rw [ih e.on (hahead i o ho e he hb) (by have := hahead i o ho e he hb; omega)]; simp
          rw [hrd] at hmem
          cases hmem
    rcases hI with ⟨h1, _, _, _⟩ | ⟨_, _, h1, _⟩ | ⟨_, _, hq⟩
    · rw [hall y (by omega)] at h1; cases h1
    · rw [hall (y + 1) (by omega)] at h1; cases h1
    · exact hq
  · intro l a w i o hI ho hli haft
    have hli' := bit_of hli
    have hil : i < ops.size := (Array.getElem?_eq_some_iff.1 ho).1
    obtain ⟨d, hd, hdN, hg⟩ := hdsts i o ho
    rw [if_pos (want_none hg)]
    rcases hI with ⟨hny, hny1, hclo, hI⟩ | ⟨hls, hdone, hny1, b, a0, rfl, hsz0, hfin⟩ | ⟨hls, hall, _⟩
    · rcases Nat.lt_trichotomy i y with hiy | rfl | hiy
      · refine hstep i o d a w hiy ho hd hI.nu (hfrm hI) (hadR_of hI.tv _ (fun e he => by
          rw [List.mem_filter] at he
          exact haft e (Array.mem_toList_iff.1 he.1) he.2)) _ (fun w' v hm hv => .inl ⟨by rw [getD_set_ne (by omega)]; exact hny, by rw [getD_set_ne (by omega)]; exact hny1, cl_set hclo ho haft, hI.put2 hR hap hdN hm ho hd hv⟩)
      · rw [hoy] at ho
        cases ho
        have hoth := hcl l hclo haft
        refine Oper.wpIn_mono (fun a' w' hq => ?_) (hyield a w hI.nu hI.df hI.sz (hfrm hI) (fun j o' d' hj ho' hd' => hI.tv j o' d' ho' (hoth j hj) hd'))
        obtain ⟨b, rfl, hf⟩ := hq
        refine .inr (.inl ⟨by simp [hI.ls], fun k hk => ?_, by rw [getD_set_ne (by omega)]; exact hny1, b, a, rfl, hI.sz, hf⟩)
        by_cases hki : k = i
        · rw [hki]; exact getD_set_self (by rw [hI.ls]; exact hil)
        · rw [getD_set_ne hki]; exact hoth k (by omega)
      · obtain rfl : i = y + 1 := by omega
        rw [hon] at ho
        cases ho
        rw [List.any_eq_true] at hna
        obtain ⟨e, he, hb⟩ := hna
        rw [Bool.and_eq_true] at hb
        have h1 := haft e (Array.mem_toList_iff.1 he) hb.2
        rw [beq_iff_eq.1 hb.1, hny] at h1
        cases h1
    · rcases Nat.lt_or_ge y i with hiy | hiy
      · obtain rfl : i = y + 1 := by omega
        rw [hon] at ho
        cases ho
        have hv : (⟨a0.tmps.setIfInBounds dy (.bool b), a0.defers⟩ : Act).eval (.tmp dy) = .bool b := by
          simp [Act.eval, hsz0, hdylt]
        refine ⟨fun _ _ => trivial, ?_⟩
        show Oper.uponIn _ _ _ _ _ _ _ ((execOp _ _).run Try.prog w)
        rw [hnot _ b w hv, Oper.uponIn_value]
        refine .inr (.inr ⟨by simp [hls], fun k hk => ?_, ?_⟩)
        · by_cases hki : k = y + 1
          · rw [hki]; exact getD_set_self (by rw [hls]; exact hil)
          · rw [getD_set_ne hki]; exact hdone k (by omega)
        · have := hQ b a0 w hsz0 hfin
          simpa [Act.put, hdn] using this
      · rw [hdone i hiy] at hli'; cases hli'
    · rw [hall i hil] at hli'; cases hli'

end Go.Proofs.Ytcpgpiokjghcnaa
/-
  A region that draws its order, whose last operations wait for all others and for one another: all that is ahead by a relation, then these, one by one. One operation, the first, that nothing of the region turns, may stand beside: it is taken ahead.
-/
set_option linter.unusedSimpArgs false
set_option linter.unusedVariables false
namespace Go.Proofs.Ytcpgpiokjghcnaa
open Go.RowKit

/-- The operations i .. of a region, one by one. -/
def tailW (ops : Array Oper) (Q : Exit → Act → World → Prop) : List Nat → Act → World → Prop
  | [], a, w => Q .normal a w
  | i :: r, a, w => ∃ o, ops[i]? = some o ∧ o.guard = none ∧ Oper.wp Try.prog o a w (tailW ops Q r) Q

def tailB (ops : Array Oper) (N y : Nat) : Bool :=
  apartO ops.toList && aheadB 0 ops.toList && decide (0 < y) && decide (y < ops.size) &&
  ((List.range y).all fun i => match ops[i]? with | some o => (match o.dst with | some d => decide (d < N) | none => false) | none => false) &&
  ((List.range ops.size).all fun j => decide (j < y) || match ops[j]? with | some o => o.guard.isNone && (j == y || o.after.toList.any fun e => e.on + 1 == j && Region.binds .any e) | none => false)

/-- What is known on the way to the last ones. -/
structure LT (ops : Array Oper) (y : Nat) (R : Nat → World → Value → Prop) (A0 : Act) (W : World) (l : Array Bool) (a : Act) (w : World) : Prop where
  ls : l.size = ops.size
  sz : a.tmps.size = A0.tmps.size
  df : a.defers = A0.defers
  nu : Nu W w
  hi : ∀ i, y ≤ i → l.getD i false = false
  cl : Closed ops l
  z : l.getD 0 false = true
  fr : ∀ j : Nat, (∀ (i : Nat) (o : Oper), i < y → ops[i]? = some o → o.dst ≠ some j) → a.tmps[j]? = A0.tmps[j]?
  tv : ∀ (i : Nat) (o : Oper) (d : Nat), ops[i]? = some o → l.getD i false = true → o.dst = some d → ∃ v, a.tmps[d]? = some v ∧ R i w v

theorem LT.put {ops : Array Oper} {y : Nat} {R : Nat → World → Value → Prop} {A0 : Act} {W : World} {l : Array Bool} {a : Act} {w w' : World} {v : Value} (h : LT ops y R A0 W l a w) (hR : ∀ i w w' v, Nu w w' → R i w v → R i w' v) (hap : apartO ops.toList = true) {i : Nat} {o : Oper} {d : Nat} (hy : i < y) (hdN : d < A0.tmps.size) (hm : Nu w w') (hi : ops[i]? = some o) (hd : o.dst = some d) (haft : ∀ e ∈ o.after, Region.binds .any e = true → l.getD e.on false = true) (hv : R i w' v) :
    LT ops y R A0 W (l.setIfInBounds i true) ⟨a.tmps.setIfInBounds d v, a.defers⟩ w' := by
  have hlt : d < a.tmps.size := by rw [h.sz]; exact hdN
  refine ⟨by simp [h.ls], by simp [h.sz], h.df, mv0 h.nu hm, fun j hj => ?_, cl_set h.cl hi haft, ?_, fun j hj => ?_, fun j o' d' hj hlj hd' => ?_⟩
  · rw [getD_set_ne (by omega)]
    exact h.hi j hj
  · by_cases h0 : 0 = i
    · subst h0
      exact getD_set_self (by rw [h.ls]; exact (Array.getElem?_eq_some_iff.1 hi).1)
    · rw [getD_set_ne h0]
      exact h.z
  · have hne : d ≠ j := fun e => hj i o hy hi (by rw [hd, e])
    rw [Array.getElem?_setIfInBounds_ne hne]
    exact h.fr j hj
  · by_cases hji : j = i
    · subst hji
      rw [hi] at hj
      cases hj
      rw [hd] at hd'
      cases hd'
      exact ⟨v, by rw [Array.getElem?_setIfInBounds_self]; simp [hlt], hv⟩
    · rcases getD_set' hlj with e | hlj
      · exact absurd e hji
      · have hne : d ≠ d' := fun e => hji (apartO_of hap j i o' o d (by rw [Array.getElem?_toList]; exact hj) (by rw [Array.getElem?_toList]; exact hi) (by rw [e]; exact hd') hd)
        obtain ⟨u, h1, h2⟩ := h.tv j o' d' hj hlj hd'
        exact ⟨u, by rw [Array.getElem?_setIfInBounds_ne hne]; exact h1, hR _ _ _ _ hm h2⟩

theorem range'_cons {y n : Nat} (h : y < n) : List.range' y (n - y) = y :: List.range' (y + 1) (n - (y + 1)) := by
  rw [show n - y = (n - (y + 1)) + 1 by omega, List.range'_succ]

/-- THE LAW. -/
theorem wp_tail {ops : Array Oper} {A0 : Act} {W : World} {Q : Exit → Act → World → Prop} {id : Nat} (y : Nat) (v0 : Value) (o0 : Oper) (d0 : Nat) (R : Nat → World → Value → Prop) (hR : ∀ i w w' v, Nu w w' → R i w v → R i w' v) (hF : Try.prog.follows Departure.mixedOrders = true) (hk : tailB ops A0.tmps.size y = true)
    (ho0 : ops[0]? = some o0) (hd0 : o0.dst = some d0) (hsel : Region.noSelect ops = true) (hfree : Region.free .any ops (Array.replicate ops.size false) 0 = true) (hrdy : (Region.ready .any ops (Array.replicate ops.size false)).contains 0 = true) (hQ0 : ∀ c a w, Q (.panic c) (a.put o0.dst v0) w → Q (.panic c) a w) (hy0 : Yields Try.prog ops o0 v0 A0) (hR0 : R 0 W.drew v0)
    (hcl : ∀ l : Array Bool, Closed ops l → l.getD 0 false = true → (∀ o, ops[y]? = some o → ∀ e ∈ o.after, Region.binds .any e = true → l.getD e.on false = true) → ∀ i, i < y → l.getD i false = true)
    (hstep : ∀ (i : Nat) (o : Oper) (d : Nat) (a : Act) (w : World), i < y → ops[i]? = some o → o.dst = some d → Nu W w → (∀ j : Nat, (ops.toList.all fun o => o.dst != some j) = true → a.tmps[j]? = A0.tmps[j]?) → HadR R a w (waits ops o) →
      ∀ K : Act → World → Prop, (∀ w' v, Nu w w' → R i w' v → K ⟨a.tmps.setIfInBounds d v, a.defers⟩ w') → if Region.wanted o (yielded ops a.tmps) = true then Oper.wp Try.prog o a w K Q else K (a.put o.dst undef) w)
    (htail : ∀ (a : Act) (w : World), Nu W w → a.defers = A0.defers → a.tmps.size = A0.tmps.size → (∀ j : Nat, (∀ (i : Nat) (o : Oper), i < y → ops[i]? = some o → o.dst ≠ some j) → a.tmps[j]? = A0.tmps[j]?) → (∀ (i : Nat) (o : Oper) (d : Nat), i < y → ops[i]? = some o → o.dst = some d → ∃ v, a.tmps[d]? = some v ∧ R i w v) →
      tailW ops Q (List.range' y (ops.size - y)) a w) :
    Code.wp Try.prog (Code.region id ops true) Q A0 W := by
  have hk' := hk
  simp only [tailB, Bool.and_eq_true, List.all_eq_true, decide_eq_true_eq, List.mem_range] at hk'
  obtain ⟨⟨⟨⟨⟨hap, hahd⟩, hy1⟩, hy2⟩, hdst⟩, htl⟩ := hk'
  have hfalse : ∀ i, (Array.replicate ops.size false).getD i false = false := fun i => getD_none
  have hahead : ∀ (i : Nat) o, ops[i]? = some o → ∀ e ∈ o.after, Region.binds .any e = true → e.on < i := fun i o ho e he hb => by
    have := aheadB_of hahd i o (by rw [Array.getElem?_toList]; exact ho) e he hb
    omega
  have hdsts : ∀ (i : Nat) o, i < y → ops[i]? = some o → ∃ d, o.dst = some d ∧ d < A0.tmps.size := fun i o hi ho => by
    have := hdst i hi
    rw [ho] at this
    simp only at this
    cases hd : o.dst with
    | none => rw [hd] at this; cases this
    | some d => rw [hd] at this; exact ⟨d, rfl, by simpa using this⟩
  have hgd : ∀ (j : Nat) o, y ≤ j → ops[j]? = some o → o.guard = none ∧ (j = y ∨ ∃ e ∈ o.after, e.on + 1 = j ∧ Region.binds .any e = true) := fun j o hj ho => by
    have hjs : j < ops.size := (Array.getElem?_eq_some_iff.1 ho).1
    have := htl j hjs
    rw [ho, Bool.or_eq_true, decide_eq_true_eq] at this
    rcases this with h | h
    · omega
    · simp only [Bool.and_eq_true, Bool.or_eq_true, beq_iff_eq, List.any_eq_true] at h
      refine ⟨by simpa using h.1, h.2.imp (fun h => h) fun ⟨e, he, h1, h2⟩ => ⟨e, Array.mem_toList_iff.1 he, h1, h2⟩⟩
  have hpos : 0 < ops.size := by omega
  obtain ⟨fuel, hfu⟩ : ∃ f, ops.size = f + 1 := ⟨ops.size - 1, by omega⟩
  refine wp_region_any hF ?_
  show wpAny Try.prog .any ops Q ops.size (Array.replicate ops.size false) A0 W.drew
  have hun : unlisted ((Array.replicate ops.size false).setIfInBounds 0 true) ≤ fuel := by
    have h1 := unlisted_set (l := Array.replicate ops.size false) (i := 0) (by rw [Array.getD_eq_getD_getElem?, Array.getElem?_replicate, if_pos hpos]; rfl)
    have h2 : unlisted (Array.replicate ops.size false) = ops.size := unlisted_start _
    omega
  obtain ⟨l0, hl0⟩ : ∃ l0, Array.replicate ops.size false = l0 := ⟨_, rfl⟩
  rw [hl0] at hfree hrdy hun ⊢
  rw [hfu]
  refine wpAny_take (i := 0) (v := v0) ho0 hsel hfree hrdy hQ0 hy0 ?_
  have hfrm : ∀ {l : Array Bool} {a : Act} {w : World}, LT ops y R A0 W l a w → ∀ j : Nat, (ops.toList.all fun o => o.dst != some j) = true → a.tmps[j]? = A0.tmps[j]? := fun hI j hj => hI.fr j (fun i' o' _ ho' => by
    rw [List.all_eq_true] at hj
    have := hj o' (Array.mem_toList_iff.2 (Array.mem_of_getElem? ho'))
    simpa using this)
  refine wpAny_inv (fun l a w => LT ops y R A0 W l a w ∨ ∃ k, y < k ∧ k ≤ ops.size ∧ l.size = ops.size ∧ (∀ i, l.getD i false = decide (i < k)) ∧ tailW ops Q (List.range' k (ops.size - k)) a w) ?_ ?_ fuel _ _ _ hun ?_
  · intro l a w hI hrd
    have hls : l.size = ops.size := by
      rcases hI with h | ⟨k, _, _, h, _⟩
      · exact h.ls
      · exact h
    have hall : ∀ i, i < ops.size → l.getD i false = true := by
      intro i
      induction i using Nat.strongRecOn with
      | _ i ih =>
        intro hi
        cases hg : l.getD i false with
        | true => rfl
        | false =>
          exfalso
          have hmem : i ∈ Region.ready .any ops l := by
            unfold Region.ready
            rw [List.mem_filter]
            refine ⟨List.mem_range.2 hi, ?_⟩
            obtain ⟨o, ho⟩ : ∃ o, ops[i]? = some o := ⟨_, Array.getElem?_eq_getElem hi⟩
            have hgt : l.getD i true = false := by
              rw [Array.getD_eq_getD_getElem?, Array.getElem?_eq_getElem (by omega)] at hg ⊢
              simpa using hg
            rw [hgt, ho]
            simp only [Bool.not_false, Bool.true_and, Option.map_some, Option.getD_some]
            rw [Array.all_eq_true']
            intro e he
            cases hb : Region.binds .any e with
            | false => simp
            | true => rw [ih e.on (hahead i o ho e he hb) (by have := hahead i o ho e he hb; omega)]; simp
          rw [hrd] at hmem
          cases hmem
    rcases hI with h | ⟨k, _, hkn, _, hd, ht⟩
    · have h1 := hall y hy2
      rw [h.hi y (Nat.le_refl _)] at h1
      cases h1
    · have hke : k = ops.size := by
        rcases Nat.lt_or_ge k ops.size with hlt | hge
        · have h1 := hall k hlt
          rw [hd k, decide_eq_false (by omega)] at h1
          cases h1
        · omega
      rw [hke, Nat.sub_self] at ht
      exact ht
  · intro l a w i o hI ho hli haft
    have hli' := bit_of hli
    have hil : i < ops.size := (Array.getElem?_eq_some_iff.1 ho).1
    have goT : ∀ k, y ≤ k → k < ops.size → l.size = ops.size → (∀ i, l.getD i false = decide (i < k)) → i = k → tailW ops Q (List.range' k (ops.size - k)) a w →
        if Region.wanted o (yielded ops a.tmps) = true then Oper.wp Try.prog o a w (fun a' w' => LT ops y R A0 W (l.setIfInBounds i true) a' w' ∨ ∃ k, y < k ∧ k ≤ ops.size ∧ (l.setIfInBounds i true).size = ops.size ∧ (∀ j, (l.setIfInBounds i true).getD j false = decide (j < k)) ∧ tailW ops Q (List.range' k (ops.size - k)) a' w') Q else (LT ops y R A0 W (l.setIfInBounds i true) (a.put o.dst undef) w ∨ ∃ k, y < k ∧ k ≤ ops.size ∧ (l.setIfInBounds i true).size = ops.size ∧ (∀ j, (l.setIfInBounds i true).getD j false = decide (j < k)) ∧ tailW ops Q (List.range' k (ops.size - k)) (a.put o.dst undef) w) := by
      intro k hyk hks hlz hd hik ht
      subst hik
      rw [range'_cons hks] at ht
      obtain ⟨o', ho', hg', hw⟩ := ht
      rw [ho] at ho'
      cases ho'
      rw [if_pos (want_none hg')]
      refine Oper.wp_mono (fun a' w' h => .inr ⟨i + 1, by omega, by omega, by simp [hlz], fun j => ?_, h⟩) hw
      by_cases hji : j = i
      · rw [hji, getD_set_self (by rw [hlz]; exact hks), decide_eq_true (by omega)]
      · rw [getD_set_ne hji, hd j]
        by_cases h1 : j < i
        · rw [decide_eq_true h1, decide_eq_true (by omega)]
        · rw [decide_eq_false h1, decide_eq_false (by omega)]
    rcases hI with hI | ⟨k, hyk, hks, hlz, hd, ht⟩
    · rcases Nat.lt_or_ge i y with hiy | hiy
      · obtain ⟨d, hdd, hdN⟩ := hdsts i o hiy ho
        exact hstep i o d a w hiy ho hdd hI.nu (hfrm hI) (hadR_of hI.tv _ (fun e he => by
          rw [List.mem_filter] at he
          exact haft e (Array.mem_toList_iff.1 he.1) he.2)) _ (fun w' v hm hv => .inl (hI.put hR hap hiy hdN hm ho hdd haft hv))
      · have hie : i = y := by
          rcases (hgd i o hiy ho).2 with h | ⟨e, he, h1, h2⟩
          · exact h
          · have h3 := haft e he h2
            rcases Nat.lt_or_ge y i with hlt | hge
            · rw [hI.hi e.on (by omega)] at h3
              cases h3
            · omega
        subst hie
        have hoth := hcl l hI.cl hI.z (fun o' ho' => by rw [ho] at ho'; cases ho'; exact haft)
        refine goT i (Nat.le_refl _) hil hI.ls (fun j => ?_) rfl (htail a w hI.nu hI.df hI.sz hI.fr (fun j o' d' hj ho' hd' => hI.tv j o' d' ho' (hoth j hj) hd'))
        by_cases hj : j < i
        · rw [hoth j hj, decide_eq_true hj]
        · rw [hI.hi j (by omega), decide_eq_false hj]
    · have hik : k ≤ i := by
        rcases Nat.lt_or_ge i k with hlt | hge
        · rw [hd i, decide_eq_true hlt] at hli'; cases hli'
        · exact hge
      have hie : i = k := by
        rcases (hgd i o (by omega) ho).2 with h | ⟨e, he, h1, h2⟩
        · omega
        · have h3 := haft e he h2
          rw [hd e.on] at h3
          have := of_decide_eq_true h3
          omega
      exact goT k (by omega) (by omega) hlz hd hie ht
  · obtain ⟨d, hd, hdN⟩ := hdsts 0 o0 hy1 ho0
    rw [hd0] at hd
    cases hd
    rw [hd0]
    have hz : (l0.setIfInBounds 0 true).getD 0 false = true := getD_set_self (by rw [← hl0]; simp; omega)
    have hne : ∀ i, i ≠ 0 → (l0.setIfInBounds 0 true).getD i false = false := fun i hi => by rw [getD_set_ne hi, ← hl0]; exact hfalse i
    refine .inl ⟨by rw [← hl0]; simp, by simp [Act.put], rfl, Mv.drew _ _, fun i hi => hne i (by omega), fun i o ho hl e he hb => ?_, hz, fun j hj => ?_, fun i o d ho hl hd => ?_⟩
    · by_cases hi0 : i = 0
      · subst hi0
        have := hahead 0 o ho e he hb
        omega
      · rw [hne i hi0] at hl; cases hl
    · have : d0 ≠ j := fun e => hj 0 o0 hy1 ho0 (by rw [hd0, e])
      simp [Act.put, Array.getElem?_setIfInBounds_ne this]
    · by_cases hi0 : i = 0
      · subst hi0
        rw [ho0] at ho
        cases ho
        rw [hd0] at hd
        cases hd
        exact ⟨v0, by simp [Act.put, hdN], hR0⟩
      · rw [hne i hi0] at hl; cases hl

/-- The slots behind the first y operations, written out. -/
theorem fill_eqT {ops : Array Oper} {A0 a : Act} {y : Nat} {vals : Nat → Value} (hk : tailB ops A0.tmps.size y = true) (hfr : ∀ j : Nat, (∀ (i : Nat) (o : Oper), i < y → ops[i]? = some o → o.dst ≠ some j) → a.tmps[j]? = A0.tmps[j]?)
    (htv : ∀ (i : Nat) (o : Oper) (d : Nat), i < y → ops[i]? = some o → o.dst = some d → a.tmps[d]? = some (vals i)) : a.tmps = fill vals (ops.toList.take y) 0 A0.tmps := by
  have hk' := hk
  simp only [tailB, Bool.and_eq_true, List.all_eq_true, decide_eq_true_eq, List.mem_range] at hk'
  obtain ⟨⟨⟨⟨⟨hap, hahd⟩, hy1⟩, hy2⟩, hdst⟩, htl⟩ := hk'
  have hget : ∀ i o, (ops.toList.take y)[i]? = some o ↔ i < y ∧ ops[i]? = some o := fun i o => by
    rw [List.getElem?_take]
    by_cases h : i < y
    · simp [h]
    · simp [h]
  have hapt : apartO (ops.toList.take y) = true := by
    have : ∀ (l : List Oper) (n : Nat), apartO l = true → apartO (l.take n) = true := by
      intro l
      induction l with
      | nil => intro n _; cases n <;> rfl
      | cons p l ih =>
        intro n h
        cases n with
        | zero => rfl
        | succ n =>
          simp only [List.take_succ_cons, apartO, Bool.and_eq_true, List.all_eq_true] at h ⊢
          exact ⟨fun q hq => h.1 q (List.mem_of_mem_take hq), ih n h.2⟩
    exact this _ _ hap
  apply Array.ext_getElem?
  intro j
  by_cases hj : ∃ (i : Nat) (o : Oper), i < y ∧ ops[i]? = some o ∧ o.dst = some j
  · obtain ⟨i, o, hi, ho, hd⟩ := hj
    have hlt : j < A0.tmps.size := by
      have := hdst i hi
      rw [ho] at this
      simp only [hd] at this
      simpa using this
    rw [htv i o j hi ho hd, fill_at vals hapt (i := i) ((hget i o).2 ⟨hi, ho⟩) hd hlt, Nat.zero_add]
  · rw [hfr j (fun i o hi ho hd => hj ⟨i, o, hi, ho, hd⟩), fill_other vals (fun i o ho hd => hj ⟨i, o, ((hget i o).1 ho).1, ((hget i o).1 ho).2, hd⟩)]

end Go.Proofs.Ytcpgpiokjghcnaa
/-
  wp_tail, where a slot that one of the last operations writes may be read ahead of them.
-/
set_option linter.unusedSimpArgs false
set_option linter.unusedVariables false
namespace Go.Proofs.Ytcpgpiokjghcnaa
open Go.RowKit

/-- THE LAW. -/
theorem wp_tail2 {ops : Array Oper} {A0 : Act} {W : World} {Q : Exit → Act → World → Prop} {id : Nat} (y : Nat) (v0 : Value) (o0 : Oper) (d0 : Nat) (R : Nat → World → Value → Prop) (hR : ∀ i w w' v, Nu w w' → R i w v → R i w' v) (hF : Try.prog.follows Departure.mixedOrders = true) (hk : tailB ops A0.tmps.size y = true)
    (ho0 : ops[0]? = some o0) (hd0 : o0.dst = some d0) (hsel : Region.noSelect ops = true) (hfree : Region.free .any ops (Array.replicate ops.size false) 0 = true) (hrdy : (Region.ready .any ops (Array.replicate ops.size false)).contains 0 = true) (hQ0 : ∀ c a w, Q (.panic c) (a.put o0.dst v0) w → Q (.panic c) a w) (hy0 : Yields Try.prog ops o0 v0 A0) (hR0 : R 0 W.drew v0)
    (hcl : ∀ l : Array Bool, Closed ops l → l.getD 0 false = true → (∀ o, ops[y]? = some o → ∀ e ∈ o.after, Region.binds .any e = true → l.getD e.on false = true) → ∀ i, i < y → l.getD i false = true)
    (hstep : ∀ (i : Nat) (o : Oper) (d : Nat) (a : Act) (w : World), i < y → ops[i]? = some o → o.dst = some d → Nu W w → (∀ j : Nat, ((ops.toList.take y).all fun o => o.dst != some j) = true → a.tmps[j]? = A0.tmps[j]?) → HadR R a w (waits ops o) →
      ∀ K : Act → World → Prop, (∀ w' v, Nu w w' → R i w' v → K ⟨a.tmps.setIfInBounds d v, a.defers⟩ w') → if Region.wanted o (yielded ops a.tmps) = true then Oper.wp Try.prog o a w K Q else K (a.put o.dst undef) w)
    (htail : ∀ (a : Act) (w : World), Nu W w → a.defers = A0.defers → a.tmps.size = A0.tmps.size → (∀ j : Nat, (∀ (i : Nat) (o : Oper), i < y → ops[i]? = some o → o.dst ≠ some j) → a.tmps[j]? = A0.tmps[j]?) → (∀ (i : Nat) (o : Oper) (d : Nat), i < y → ops[i]? = some o → o.dst = some d → ∃ v, a.tmps[d]? = some v ∧ R i w v) →
      tailW ops Q (List.range' y (ops.size - y)) a w) :
    Code.wp Try.prog (Code.region id ops true) Q A0 W := by
  have hk' := hk
  simp only [tailB, Bool.and_eq_true, List.all_eq_true, decide_eq_true_eq, List.mem_range] at hk'
  obtain ⟨⟨⟨⟨⟨hap, hahd⟩, hy1⟩, hy2⟩, hdst⟩, htl⟩ := hk'
  have hfalse : ∀ i, (Array.replicate ops.size false).getD i false = false := fun i => getD_none
  have hahead : ∀ (i : Nat) o, ops[i]? = some o → ∀ e ∈ o.after, Region.binds .any e = true → e.on < i := fun i o ho e he hb => by
    have := aheadB_of hahd i o (by rw [Array.getElem?_toList]; exact ho) e he hb
    omega
  have hdsts : ∀ (i : Nat) o, i < y → ops[i]? = some o → ∃ d, o.dst = some d ∧ d < A0.tmps.size := fun i o hi ho => by
    have := hdst i hi
    rw [ho] at this
    simp only at this
    cases hd : o.dst with
    | none => rw [hd] at this; cases this
    | some d => rw [hd] at this; exact ⟨d, rfl, by simpa using this⟩
  have hgd : ∀ (j : Nat) o, y ≤ j → ops[j]? = some o → o.guard = none ∧ (j = y ∨ ∃ e ∈ o.after, e.on + 1 = j ∧ Region.binds .any e = true) := fun j o hj ho => by
    have hjs : j < ops.size := (Array.getElem?_eq_some_iff.1 ho).1
    have := htl j hjs
    rw [ho, Bool.or_eq_true, decide_eq_true_eq] at this
    rcases this with h | h
    · omega
    · simp only [Bool.and_eq_true, Bool.or_eq_true, beq_iff_eq, List.any_eq_true] at h
      refine ⟨by simpa using h.1, h.2.imp (fun h => h) fun ⟨e, he, h1, h2⟩ => ⟨e, Array.mem_toList_iff.1 he, h1, h2⟩⟩
  have hpos : 0 < ops.size := by omega
  obtain ⟨fuel, hfu⟩ : ∃ f, ops.size = f + 1 := ⟨ops.size - 1, by omega⟩
  refine wp_region_any hF ?_
  show wpAny Try.prog .any ops Q ops.size (Array.replicate ops.size false) A0 W.drew
  have hun : unlisted ((Array.replicate ops.size false).setIfInBounds 0 true) ≤ fuel := by
    have h1 := unlisted_set (l := Array.replicate ops.size false) (i := 0) (by rw [Array.getD_eq_getD_getElem?, Array.getElem?_replicate, if_pos hpos]; rfl)
    have h2 : unlisted (Array.replicate ops.size false) = ops.size := unlisted_start _
    omega
  obtain ⟨l0, hl0⟩ : ∃ l0, Array.replicate ops.size false = l0 := ⟨_, rfl⟩
  rw [hl0] at hfree hrdy hun ⊢
  rw [hfu]
  refine wpAny_take (i := 0) (v := v0) ho0 hsel hfree hrdy hQ0 hy0 ?_
  have hfrm : ∀ {l : Array Bool} {a : Act} {w : World}, LT ops y R A0 W l a w → ∀ j : Nat, ((ops.toList.take y).all fun o => o.dst != some j) = true → a.tmps[j]? = A0.tmps[j]? := fun hI j hj => hI.fr j (fun i' o' hi' ho' => by
    rw [List.all_eq_true] at hj
    have := hj o' (List.mem_iff_getElem?.2 ⟨i', by rw [List.getElem?_take, if_pos hi', Array.getElem?_toList]; exact ho'⟩)
    simpa using this)
  refine wpAny_inv (fun l a w => LT ops y R A0 W l a w ∨ ∃ k, y < k ∧ k ≤ ops.size ∧ l.size = ops.size ∧ (∀ i, l.getD i false = decide (i < k)) ∧ tailW ops Q (List.range' k (ops.size - k)) a w) ?_ ?_ fuel _ _ _ hun ?_
  · intro l a w hI hrd
    have hls : l.size = ops.size := by
      rcases hI with h | ⟨k, _, _, h, _⟩
      · exact h.ls
      · exact h
    have hall : ∀ i, i < ops.size → l.getD i false = true := by
      intro i
      induction i using Nat.strongRecOn with
      | _ i ih =>
        intro hi
        cases hg : l.getD i false with
        | true => rfl
        | false =>
          exfalso
          have hmem : i ∈ Region.ready .any ops l := by
            unfold Region.ready
            rw [List.mem_filter]
            refine ⟨List.mem_range.2 hi, ?_⟩
            obtain ⟨o, ho⟩ : ∃ o, ops[i]? = some o := ⟨_, Array.getElem?_eq_getElem hi⟩
            have hgt : l.getD i true = false := by
              rw [Array.getD_eq_getD_getElem?, Array.getElem?_eq_getElem (by omega)] at hg ⊢
              simpa using hg
            rw [hgt, ho]
            simp only [Bool.not_false, Bool.true_and, Option.map_some, Option.getD_some]
            rw [Array.all_eq_true']
            intro e he
            cases hb : Region.binds .any e with
            | false => simp
            | true => rw [ih e.on (hahead i o ho e he hb) (by have := hahead i o ho e he hb; omega)]; simp
          rw [hrd] at hmem
          cases hmem
    rcases hI with h | ⟨k, _, hkn, _, hd, ht⟩
    · have h1 := hall y hy2
      rw [h.hi y (Nat.le_refl _)] at h1
      cases h1
    · have hke : k = ops.size := by
        rcases Nat.lt_or_ge k ops.size with hlt | hge
        · have h1 := hall k hlt
          rw [hd k, decide_eq_false (by omega)] at h1
          cases h1
        · omega
      rw [hke, Nat.sub_self] at ht
      exact ht
  · intro l a w i o hI ho hli haft
    have hli' := bit_of hli
    have hil : i < ops.size := (Array.getElem?_eq_some_iff.1 ho).1
    have goT : ∀ k, y ≤ k → k < ops.size → l.size = ops.size → (∀ i, l.getD i false = decide (i < k)) → i = k → tailW ops Q (List.range' k (ops.size - k)) a w →
        if Region.wanted o (yielded ops a.tmps) = true then Oper.wp Try.prog o a w (fun a' w' => LT ops y R A0 W (l.setIfInBounds i true) a' w' ∨ ∃ k, y < k ∧ k ≤ ops.size ∧ (l.setIfInBounds i true).size = ops.size ∧ (∀ j, (l.setIfInBounds i true).getD j false = decide (j < k)) ∧ tailW ops Q (List.range' k (ops.size - k)) a' w') Q else (LT ops y R A0 W (l.setIfInBounds i true) (a.put o.dst undef) w ∨ ∃ k, y < k ∧ k ≤ ops.size ∧ (l.setIfInBounds i true).size = ops.size ∧ (∀ j, (l.setIfInBounds i true).getD j false = decide (j < k)) ∧ tailW ops Q (List.range' k (ops.size - k)) (a.put o.dst undef) w) := by
      intro k hyk hks hlz hd hik ht
      subst hik
      rw [range'_cons hks] at ht
      obtain ⟨o', ho', hg', hw⟩ := ht
      rw [ho] at ho'
      cases ho'
      rw [if_pos (want_none hg')]
      refine Oper.wp_mono (fun a' w' h => .inr ⟨i + 1, by omega, by omega, by simp [hlz], fun j => ?_, h⟩) hw
      by_cases hji : j = i
      · rw [hji, getD_set_self (by rw [hlz]; exact hks), decide_eq_true (by omega)]
      · rw [getD_set_ne hji, hd j]
        by_cases h1 : j < i
        · rw [decide_eq_true h1, decide_eq_true (by omega)]
        · rw [decide_eq_false h1, decide_eq_false (by omega)]
    rcases hI with hI | ⟨k, hyk, hks, hlz, hd, ht⟩
    · rcases Nat.lt_or_ge i y with hiy | hiy
      · obtain ⟨d, hdd, hdN⟩ := hdsts i o hiy ho
        exact hstep i o d a w hiy ho hdd hI.nu (hfrm hI) (hadR_of hI.tv _ (fun e he => by
          rw [List.mem_filter] at he
          exact haft e (Array.mem_toList_iff.1 he.1) he.2)) _ (fun w' v hm hv => .inl (hI.put hR hap hiy hdN hm ho hdd haft hv))
      · have hie : i = y := by
          rcases (hgd i o hiy ho).2 with h | ⟨e, he, h1, h2⟩
          · exact h
          · have h3 := haft e he h2
            rcases Nat.lt_or_ge y i with hlt | hge
            · rw [hI.hi e.on (by omega)] at h3
              cases h3
            · omega
        subst hie
        have hoth := hcl l hI.cl hI.z (fun o' ho' => by rw [ho] at ho'; cases ho'; exact haft)
        refine goT i (Nat.le_refl _) hil hI.ls (fun j => ?_) rfl (htail a w hI.nu hI.df hI.sz hI.fr (fun j o' d' hj ho' hd' => hI.tv j o' d' ho' (hoth j hj) hd'))
        by_cases hj : j < i
        · rw [hoth j hj, decide_eq_true hj]
        · rw [hI.hi j (by omega), decide_eq_false hj]
    · have hik : k ≤ i := by
        rcases Nat.lt_or_ge i k with hlt | hge
        · rw [hd i, decide_eq_true hlt] at hli'; cases hli'
        · exact hge
      have hie : i = k := by
        rcases (hgd i o (by omega) ho).2 with h | ⟨e, he, h1, h2⟩
        · omega
        · have h3 := haft e he h2
          rw [hd e.on] at h3
          have := of_decide_eq_true h3
          omega
      exact goT k (by omega) (by omega) hlz hd hie ht
  · obtain ⟨d, hd, hdN⟩ := hdsts 0 o0 hy1 ho0
    rw [hd0] at hd
    cases hd
    rw [hd0]
    have hz : (l0.setIfInBounds 0 true).getD 0 false = true := getD_set_self (by rw [← hl0]; simp; omega)
    have hne : ∀ i, i ≠ 0 → (l0.setIfInBounds 0 true).getD i false = false := fun i hi => by rw [getD_set_ne hi, ← hl0]; exact hfalse i
    refine .inl ⟨by rw [← hl0]; simp, by simp [Act.put], rfl, Mv.drew _ _, fun i hi => hne i (by omega), fun i o ho hl e he hb => ?_, hz, fun j hj => ?_, fun i o d ho hl hd => ?_⟩
    · by_cases hi0 : i = 0
      · subst hi0
        have := hahead 0 o ho e he hb
        omega
      · rw [hne i hi0] at hl; cases hl
    · have : d0 ≠ j := fun e => hj 0 o0 hy1 ho0 (by rw [hd0, e])
      simp [Act.put, Array.getElem?_setIfInBounds_ne this]
    · by_cases hi0 : i = 0
      · subst hi0
        rw [ho0] at ho
        cases ho
        rw [hd0] at hd
        cases hd
        exact ⟨v0, by simp [Act.put, hdN], hR0⟩
      · rw [hne i hi0] at hl; cases hl

end Go.Proofs.Ytcpgpiokjghcnaa
