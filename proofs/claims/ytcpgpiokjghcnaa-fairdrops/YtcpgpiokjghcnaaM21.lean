/-
  FaRegIn.
-/
import Derived.ControlIn
import Derived.OrdersIn
import Derived.OwnWalkIn
import Derived.RangeFuncCalls
import Derived.Test.YtcpgpiokjghcnaaM19
/-
  In a round's frame (mkfareg.py writes this): a region that draws its order and holds a yield: all that is ahead of the yield by a relation, then the yield, then what is made of its answer.
-/
set_option linter.unusedSimpArgs false
set_option linter.unusedVariables false
namespace Go.Proofs.Ytcpgpiokjghcnaa
open Go.RowKit

theorem wpIn_of_opR {n lr : Nat} {P : Program} {o : Oper} {a : Act} {w : World} {K : Act → World → Prop} {Q : Exit → Act → World → Prop} (hnd : ∀ c, o.op ≠ .defer c) (h : Oper.wp P o a w K Q) : Oper.wpIn (Fence.wide.inRound lr) n P o a w K Q := by
  refine ⟨fun _ _ => trivial, ?_⟩
  rw [Oper.semAt_plain (Fence.wide.inRound lr) _ _ hnd]
  unfold Oper.wp at h
  generalize (execOp a.eval o).run P w = r at *
  cases r with
  | ok x w' =>
    cases x with
    | value v => exact h
    | skip => exact h
    | defer d => exact h
    | enter f args => exact ⟨fun h => by simp [Fence.wide] at h, CallsIn.inRound lr (callsIn_wide.2 h)⟩
    | row row args => exact ⟨fun h => by simp [Fence.wide] at h, fun c cs _ => let ⟨v, w', r, s⟩ := h c cs; ⟨v, w', r, stepsIn_wide.2 s⟩⟩
    | _ => exact h.elim
  | halt x w' => cases x <;> exact h

theorem wpAnyIn_invR {n lr : Nat} {P : Program} {md : Region.Mode} {ops : Array Oper} {Q : Exit → Act → World → Prop} (I : Array Bool → Act → World → Prop)
    (hend : ∀ l a w, I l a w → Region.ready md ops l = [] → Q .normal a w)
    (hstep : ∀ l a w i o, I l a w → ops[i]? = some o → l.getD i true = false → (∀ e ∈ o.after, Region.binds md e = true → l.getD e.on false = true) →
      if Region.wanted o (yielded ops a.tmps) = true then Oper.wpIn (Fence.wide.inRound lr) n P o a w (I (l.setIfInBounds i true)) Q else I (l.setIfInBounds i true) (a.put o.dst undef) w) :
    ∀ (fuel : Nat) (l : Array Bool) (a : Act) (w : World), unlisted l ≤ fuel → I l a w → wpAnyIn (Fence.wide.inRound lr) n P md ops Q fuel l a w := by
  intro fuel
  induction fuel with
  | zero => exact fun l a w hu hI => ⟨ready_none (by omega), hend l a w hI (ready_none (by omega))⟩
  | succ fuel ih =>
    intro l a w hu hI
    refine ⟨fun hr => hend l a w hI hr, fun i hi => ?_⟩
    obtain ⟨h1, o, ho, h2⟩ := ready_un hi
    have hs := hstep l a w i o hI ho h1 h2
    have hun := unlisted_set h1
    unfold wpOpIn
    simp only [ho]
    split at hs
    · rename_i hw
      rw [if_pos hw]
      exact Oper.wpIn_mono (fun a' w' h => ih _ a' w' (by omega) h) hs
    · rename_i hw
      rw [if_neg hw]
      exact ⟨fun _ _ => trivial, ih _ _ _ (by omega) hs⟩

theorem wpIn_region_invR {n lr : Nat} {P : Program} {ops : Array Oper} {Q : Exit → Act → World → Prop} {id : Nat} {a : Act} {w : World} (hP : P.follows Departure.mixedOrders = true) (I : Array Bool → Act → World → Prop) (h0 : I (Array.replicate ops.size false) a w.drew)
    (hend : ∀ l a w, I l a w → Region.ready Region.Mode.any ops l = [] → Q .normal a w)
    (hstep : ∀ l a w i o, I l a w → ops[i]? = some o → l.getD i true = false → (∀ e ∈ o.after, Region.binds Region.Mode.any e = true → l.getD e.on false = true) →
      if Region.wanted o (yielded ops a.tmps) = true then Oper.wpIn (Fence.wide.inRound lr) n P o a w (I (l.setIfInBounds i true)) Q else I (l.setIfInBounds i true) (a.put o.dst undef) w) :
    Code.wpIn (Fence.wide.inRound lr) n P (Code.region id ops true) Q a w :=
  wpIn_region_any hP (wpAnyIn_invR I hend hstep _ _ _ _ (by rw [unlisted_start]; exact Nat.le_refl _) h0)

/-- THE LAW. -/
theorem wpIn_yieldR {n lr : Nat} {ops : Array Oper} {A0 : Act} {W : World} {Q : Exit → Act → World → Prop} {id : Nat} (y dy dn : Nat) (oy on : Oper) (R : Nat → World → Value → Prop) (Fin : Bool → Act → World → Prop) (hR : ∀ i w w' v, Nu w w' → R i w v → R i w' v) (hF : Try.prog.follows Departure.mixedOrders = true) (hk : yieldB ops A0.tmps.size y = true)
    (hoy : ops[y]? = some oy) (hcl : ∀ l : Array Bool, Closed ops l → (∀ e ∈ oy.after, Region.binds .any e = true → l.getD e.on false = true) → ∀ i, i < y → l.getD i false = true) (hon : ops[y + 1]? = some on) (hdy : oy.dst = some dy) (hdn : on.dst = some dn) (hndf : ∀ c, on.op ≠ .defer c) (hnot : ∀ (a : Act) (b : Bool) (w : World), a.eval (.tmp dy) = .bool b → (execOp a.eval on).run Try.prog w = .ok (.value (.bool (!b))) w)
    (hstep : ∀ (i : Nat) (o : Oper) (d : Nat) (a : Act) (w : World), i < y → ops[i]? = some o → o.dst = some d → Nu W w → (∀ j : Nat, (ops.toList.all fun o => o.dst != some j) = true → a.tmps[j]? = A0.tmps[j]?) → HadR R a w (waits ops o) →
      ∀ K : Act → World → Prop, (∀ w' v, Nu w w' → R i w' v → K ⟨a.tmps.setIfInBounds d v, a.defers⟩ w') → Oper.wpIn (Fence.wide.inRound lr) n Try.prog o a w K Q)
    (hyield : ∀ (a : Act) (w : World), Nu W w → a.defers = A0.defers → a.tmps.size = A0.tmps.size → (∀ j : Nat, (ops.toList.all fun o => o.dst != some j) = true → a.tmps[j]? = A0.tmps[j]?) → (∀ (i : Nat) (o : Oper) (d : Nat), i < y → ops[i]? = some o → o.dst = some d → ∃ v, a.tmps[d]? = some v ∧ R i w v) →
      Oper.wpIn (Fence.wide.inRound lr) n Try.prog oy a w (fun a' w' => ∃ b, a' = ⟨a.tmps.setIfInBounds dy (.bool b), a.defers⟩ ∧ Fin b a w') Q)
    (hQ : ∀ b a w', a.tmps.size = A0.tmps.size → Fin b a w' → Q .normal ⟨(a.tmps.setIfInBounds dy (.bool b)).setIfInBounds dn (.bool (!b)), a.defers⟩ w') :
    Code.wpIn (Fence.wide.inRound lr) n Try.prog (Code.region id ops true) Q A0 W := by
  have hk' := hk
  simp only [yieldB, Bool.and_eq_true, List.all_eq_true, beq_iff_eq] at hk'
  obtain ⟨⟨⟨⟨hap, hdst⟩, hahd⟩, hsz⟩, hna⟩ := hk'
  rw [hon] at hna
  have hfalse : ∀ i, (Array.replicate ops.size false).getD i false = false := fun i => getD_none
  have hahead : ∀ (i : Nat) o, ops[i]? = some o → ∀ e ∈ o.after, Region.binds .any e = true → e.on < i := fun i o ho e he hb => by
    have := aheadB_of hahd i o (by rw [Array.getElem?_toList]; exact ho) e he hb
    omega
  have hdsts : ∀ (i : Nat) o, ops[i]? = some o → ∃ d, o.dst = some d ∧ d < A0.tmps.size ∧ o.guard = none := fun i o ho => by
    have := hdst o (Array.mem_toList_iff.2 (Array.mem_of_getElem? ho))
    cases hd : o.dst with
    | none => rw [hd] at this; cases this
    | some d =>
      rw [hd] at this
      simp only [Bool.and_eq_true, decide_eq_true_eq] at this
      exact ⟨d, rfl, this.1, by simpa using this.2⟩
  have hfrm : ∀ {l : Array Bool} {a : Act} {w : World}, LR ops R A0 W l a w → ∀ j : Nat, (ops.toList.all fun o => o.dst != some j) = true → a.tmps[j]? = A0.tmps[j]? := fun hI j hj => hI.fr j (fun i' o' ho' => by
    rw [List.all_eq_true] at hj
    have := hj o' (Array.mem_toList_iff.2 (Array.mem_of_getElem? ho'))
    simpa using this)
  have hdylt : dy < A0.tmps.size := by
    obtain ⟨d, hd, hlt, _⟩ := hdsts y oy hoy
    rw [hdy] at hd
    cases hd
    exact hlt
  refine wpIn_region_invR hF (fun l a w => (l.getD y false = false ∧ l.getD (y + 1) false = false ∧ Closed ops l ∧ LR ops R A0 W l a w) ∨ (l.size = ops.size ∧ (∀ i, i ≤ y → l.getD i false = true) ∧ l.getD (y + 1) false = false ∧ ∃ b a0, a = ⟨a0.tmps.setIfInBounds dy (.bool b), a0.defers⟩ ∧ a0.tmps.size = A0.tmps.size ∧ Fin b a0 w) ∨ (l.size = ops.size ∧ (∀ i, i < ops.size → l.getD i false = true) ∧ Q .normal a w)) ?_ ?_ ?_
  · exact .inl ⟨hfalse _, hfalse _, fun i _ _ hl => absurd hl (by rw [hfalse]; simp), by simp, rfl, rfl, Mv.drew _ _, fun _ _ => rfl, fun i _ _ _ hl => absurd hl (by rw [hfalse]; simp)⟩
  · intro l a w hI hrd
    have hls : l.size = ops.size := by
      rcases hI with ⟨_, _, _, h⟩ | ⟨h, _⟩ | ⟨h, _⟩
      · exact h.ls
      · exact h
      · exact h
    have hall : ∀ i, i < ops.size → l.getD i false = true := by
      intro i
      induction i using Nat.strongRecOn with
      | _ i ih =>
        intro hi
        cases hg : l.getD i false with
        | true => rfl
        | false =>
          exfalso
          have hmem : i ∈ Region.ready .any ops l := by
            unfold Region.ready
            rw [List.mem_filter]
            refine ⟨List.mem_range.2 hi, ?_⟩
            obtain ⟨o, ho⟩ : ∃ o, ops[i]? = some o := ⟨_, Array.getElem?_eq_getElem hi⟩
            have hgt : l.getD i true = false := by
              rw [Array.getD_eq_getD_getElem?, Array.getElem?_eq_getElem (by omega)] at hg ⊢
              simpa using hg
            rw [hgt, ho]
            simp only [Bool.not_false, Bool.true_and, Option.map_some, Option.getD_some]
            rw [Array.all_eq_true']
            intro e he
            cases hb : Region.binds .any e with
            | false => simp
            | true => rw [ih e.on (hahead i o ho e he hb) (by have := hahead i o ho e he hb; omega)]; simp
          rw [hrd] at hmem
          cases hmem
    rcases hI with ⟨h1, _, _, _⟩ | ⟨_, _, h1, _⟩ | ⟨_, _, hq⟩
    · rw [hall y (by omega)] at h1; cases h1
    · rw [hall (y + 1) (by omega)] at h1; cases h1
    · exact hq
  · intro l a w i o hI ho hli haft
    have hli' := bit_of hli
    have hil : i < ops.size := (Array.getElem?_eq_some_iff.1 ho).1
    obtain ⟨d, hd, hdN, hg⟩ := hdsts i o ho
    rw [if_pos (want_none hg)]
    rcases hI with ⟨hny, hny1, hclo, hI⟩ | ⟨hls, hdone, hny1, b, a0, rfl, hsz0, hfin⟩ | ⟨hls, hall, _⟩
    · rcases Nat.lt_trichotomy i y with hiy | rfl | hiy
      · refine hstep i o d a w hiy ho hd hI.nu (hfrm hI) (hadR_of hI.tv _ (fun e he => by
          rw [List.mem_filter] at he
          exact haft e (Array.mem_toList_iff.1 he.1) he.2)) _ (fun w' v hm hv => .inl ⟨by rw [getD_set_ne (by omega)]; exact hny, by rw [getD_set_ne (by omega)]; exact hny1, cl_set hclo ho haft, hI.put2 hR hap hdN hm ho hd hv⟩)
      · rw [hoy] at ho
        cases ho
        have hoth := hcl l hclo haft
        refine Oper.wpIn_mono (fun a' w' hq => ?_) (hyield a w hI.nu hI.df hI.sz (hfrm hI) (fun j o' d' hj ho' hd' => hI.tv j o' d' ho' (hoth j hj) hd'))
        obtain ⟨b, rfl, hf⟩ := hq
        refine .inr (.inl ⟨by simp [hI.ls], fun k hk => ?_, by rw [getD_set_ne (by omega)]; exact hny1, b, a, rfl, hI.sz, hf⟩)
        by_cases hki : k = i
        · rw [hki]; exact getD_set_self (by rw [hI.ls]; exact hil)
        · rw [getD_set_ne hki]; exact hoth k (by omega)
      · obtain rfl : i = y + 1 := by omega
        rw [hon] at ho
        cases ho
        rw [List.any_eq_true] at hna
        obtain ⟨e, he, hb⟩ := hna
        rw [Bool.and_eq_true] at hb
        have h1 := haft e (Array.mem_toList_iff.1 he) hb.2
        rw [beq_iff_eq.1 hb.1, hny] at h1
        cases h1
    · rcases Nat.lt_or_ge y i with hiy | hiy
      · obtain rfl : i = y + 1 := by omega
        rw [hon] at ho
        cases ho
        have hv : (⟨a0.tmps.setIfInBounds dy (.bool b), a0.defers⟩ : Act).eval (.tmp dy) = .bool b := by
          simp [Act.eval, hsz0, hdylt]
        refine ⟨fun _ _ => trivial, ?_⟩
        rw [Oper.semAt_plain (Fence.wide.inRound lr) _ _ hndf]
        rw [hnot _ b w hv, Oper.uponIn_value]
        refine .inr (.inr ⟨by simp [hls], fun k hk => ?_, ?_⟩)
        · by_cases hki : k = y + 1
          · rw [hki]; exact getD_set_self (by rw [hls]; exact hil)
          · rw [getD_set_ne hki]; exact hdone k (by omega)
        · have := hQ b a0 w hsz0 hfin
          simpa [Act.put, hdn] using this
      · rw [hdone i hiy] at hli'; cases hli'
    · rw [hall i hil] at hli'; cases hli'

def noDefB (ops : Array Oper) : Bool := ops.toList.all fun o => match o.op with | .defer _ => false | _ => true
theorem noDefB_of {ops : Array Oper} {i : Nat} {o : Oper} (h : noDefB ops = true) (ho : ops[i]? = some o) : ∀ c, o.op ≠ .defer c := by
  intro c hc
  unfold noDefB at h
  rw [List.all_eq_true] at h
  have := h o (Array.mem_toList_iff.2 (Array.mem_of_getElem? ho))
  rw [hc] at this
  cases this
theorem ite_opR {n lr : Nat} {c : Bool} {P : Program} {o : Oper} {a : Act} {w : World} {K : Act → World → Prop} {Q : Exit → Act → World → Prop} {q : Prop} (hnd : ∀ c, o.op ≠ .defer c) (h : if c = true then Oper.wp P o a w K Q else q) : if c = true then Oper.wpIn (Fence.wide.inRound lr) n P o a w K Q else q := by
  cases c with
  | true => exact wpIn_of_opR hnd h
  | false => exact h

theorem wpIn_lookRR {n lr : Nat} {ops : Array Oper} {A0 : Act} {W : World} {Q : Exit → Act → World → Prop} {id : Nat} (R : Nat → World → Value → Prop) (hR : ∀ i w w' v, Nu w w' → R i w v → R i w' v) (hF : Try.prog.follows Departure.mixedOrders = true) (hk : looksB ops A0.tmps.size = true)
    (hnd : noDefB ops = true) (hstep : ∀ (i : Nat) (o : Oper) (d : Nat) (a : Act) (w : World), ops[i]? = some o → o.dst = some d → Nu W w → (∀ j : Nat, (ops.toList.all fun o => o.dst != some j) = true → a.tmps[j]? = A0.tmps[j]?) → HadR R a w (waits ops o) →
      ∀ K : Act → World → Prop, (∀ w' v, Nu w w' → R i w' v → K ⟨a.tmps.setIfInBounds d v, a.defers⟩ w') → if Region.wanted o (yielded ops a.tmps) = true then Oper.wp Try.prog o a w K Q else K (a.put o.dst undef) w)
    (hQ : ∀ a w, Nu W w → a.defers = A0.defers → a.tmps.size = A0.tmps.size → (∀ j : Nat, (∀ (i : Nat) (o : Oper), ops[i]? = some o → o.dst ≠ some j) → a.tmps[j]? = A0.tmps[j]?) → (∀ (i : Nat) (o : Oper) (d : Nat), ops[i]? = some o → o.dst = some d → ∃ v, a.tmps[d]? = some v ∧ R i w v) → Q .normal a w) :
    Code.wpIn (Fence.wide.inRound lr) n Try.prog (Code.region id ops true) Q A0 W := by
  have hk' := hk
  simp only [looksB, Bool.and_eq_true, List.all_eq_true] at hk'
  have hfalse : ∀ i, (Array.replicate ops.size false).getD i false = false := fun i => by
    rw [Array.getD_eq_getD_getElem?, Array.getElem?_replicate]
    split <;> rfl
  have hahead : ∀ (i : Nat) o, ops[i]? = some o → ∀ e ∈ o.after, Region.binds .any e = true → e.on < i := fun i o ho e he hb => by
    have := aheadB_of hk'.2 i o (by rw [Array.getElem?_toList]; exact ho) e he hb
    omega
  refine wpIn_region_invR hF (LR ops R A0 W) ?_ ?_ ?_
  · exact ⟨by simp, rfl, rfl, Mv.drew _ _, fun _ _ => rfl, fun i _ _ _ hl => absurd hl (by rw [hfalse]; simp)⟩
  · intro l a w hI hrd
    have hall : ∀ i, i < ops.size → l.getD i false = true := by
      intro i
      induction i using Nat.strongRecOn with
      | _ i ih =>
        intro hi
        cases hg : l.getD i false with
        | true => rfl
        | false =>
          exfalso
          have hmem : i ∈ Region.ready .any ops l := by
            unfold Region.ready
            rw [List.mem_filter]
            refine ⟨List.mem_range.2 hi, ?_⟩
            obtain ⟨o, ho⟩ : ∃ o, ops[i]? = some o := ⟨_, Array.getElem?_eq_getElem hi⟩
            have hgt : l.getD i true = false := by
              have hls := hI.ls
              rw [Array.getD_eq_getD_getElem?, Array.getElem?_eq_getElem (by omega)] at hg ⊢
              simpa using hg
            rw [hgt, ho]
            simp only [Bool.not_false, Bool.true_and, Option.map_some, Option.getD_some]
            rw [Array.all_eq_true']
            intro e he
            cases hb : Region.binds .any e with
            | false => simp
            | true => rw [ih e.on (hahead i o ho e he hb) (by have := hahead i o ho e he hb; omega)]; simp
          rw [hrd] at hmem
          cases hmem
    exact hQ a w hI.nu hI.df hI.sz hI.fr (fun i o d ho hd => hI.tv i o d ho (hall i (Array.getElem?_eq_some_iff.1 ho).1) hd)
  · intro l a w i o hI ho _ haft
    have hdo : ∃ d, o.dst = some d := by
      have := hk'.1.2 o (Array.mem_toList_iff.2 (Array.mem_of_getElem? ho))
      cases hd : o.dst with
      | none => rw [hd] at this; cases this
      | some d => exact ⟨d, rfl⟩
    obtain ⟨d, hd⟩ := hdo
    refine ite_opR (fun c hc => noDefB_of hnd ho c hc) ?_
    refine hstep i o d a w ho hd hI.nu (fun j hj => hI.fr j (fun i' o' ho' => ?_)) (hadR_of hI.tv _ (fun e he => ?_)) (LR ops R A0 W (l.setIfInBounds i true)) (fun w' v hm hv => hI.put hR hk hm ho hd hv)
    · rw [List.all_eq_true] at hj
      have := hj o' (Array.mem_toList_iff.2 (Array.mem_of_getElem? ho'))
      simpa using this
    · rw [List.mem_filter] at he
      exact haft e (Array.mem_toList_iff.1 he.1) he.2

end Go.Proofs.Ytcpgpiokjghcnaa
