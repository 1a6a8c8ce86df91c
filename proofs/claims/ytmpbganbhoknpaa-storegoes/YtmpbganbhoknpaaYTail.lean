/-
  A region that draws its order, whose last operations wait for all others and for one another: all that is ahead by a relation, then these, one by one. One operation, the first, that nothing of the region turns, may stand beside: it is taken ahead.
-/
import Derived.Test.YtmpbganbhoknpaaYRegIn
set_option linter.unusedSimpArgs false
set_option linter.unusedVariables false
namespace Go.Proofs.Ytmpbganbhoknpaa
open Go.RowKit

/-- The operations i .. of a region, one by one. -/
def tailW (ops : Array Oper) (Q : Exit → Act → World → Prop) : List Nat → Act → World → Prop
  | [], a, w => Q .normal a w
  | i :: r, a, w => ∃ o, ops[i]? = some o ∧ o.guard = none ∧ Oper.wp Try.prog o a w (tailW ops Q r) Q

def tailB (ops : Array Oper) (N y : Nat) : Bool :=
  apartO ops.toList && aheadB 0 ops.toList && decide (0 < y) && decide (y < ops.size) &&
  ((List.range y).all fun i => match ops[i]? with | some o => (match o.dst with | some d => decide (d < N) | none => false) | none => false) &&
  ((List.range ops.size).all fun j => decide (j < y) || match ops[j]? with | some o => o.guard.isNone && (j == y || o.after.toList.any fun e => e.on + 1 == j && Region.binds .any e) | none => false)

/-- What is known on the way to the last ones. -/
structure LT (ops : Array Oper) (y : Nat) (R : Nat → World → Value → Prop) (A0 : Act) (W : World) (l : Array Bool) (a : Act) (w : World) : Prop where
  ls : l.size = ops.size
  sz : a.tmps.size = A0.tmps.size
  df : a.defers = A0.defers
  nu : Nu W w
  hi : ∀ i, y ≤ i → l.getD i false = false
  cl : Closed ops l
  z : l.getD 0 false = true
  fr : ∀ j : Nat, (∀ (i : Nat) (o : Oper), i < y → ops[i]? = some o → o.dst ≠ some j) → a.tmps[j]? = A0.tmps[j]?
  tv : ∀ (i : Nat) (o : Oper) (d : Nat), ops[i]? = some o → l.getD i false = true → o.dst = some d → ∃ v, a.tmps[d]? = some v ∧ R i w v

theorem LT.put {ops : Array Oper} {y : Nat} {R : Nat → World → Value → Prop} {A0 : Act} {W : World} {l : Array Bool} {a : Act} {w w' : World} {v : Value} (h : LT ops y R A0 W l a w) (hR : ∀ i w w' v, Nu w w' → R i w v → R i w' v) (hap : apartO ops.toList = true) {i : Nat} {o : Oper} {d : Nat} (hy : i < y) (hdN : d < A0.tmps.size) (hm : Nu w w') (hi : ops[i]? = some o) (hd : o.dst = some d) (haft : ∀ e ∈ o.after, Region.binds .any e = true → l.getD e.on false = true) (hv : R i w' v) :
    LT ops y R A0 W (l.setIfInBounds i true) ⟨a.tmps.setIfInBounds d v, a.defers⟩ w' := by
  have hlt : d < a.tmps.size := by rw [h.sz]; exact hdN
  refine ⟨by simp [h.ls], by simp [h.sz], h.df, mv0 h.nu hm, fun j hj => ?_, cl_set h.cl hi haft, ?_, fun j hj => ?_, fun j o' d' hj hlj hd' => ?_⟩
  · rw [getD_set_ne (by omega)]
    exact h.hi j hj
  · by_cases h0 : 0 = i
    · subst h0
      exact getD_set_self (by rw [h.ls]; exact (Array.getElem?_eq_some_iff.1 hi).1)
    · rw [getD_set_ne h0]
      exact h.z
  · have hne : d ≠ j := fun e => hj i o hy hi (by rw [hd, e])
    rw [Array.getElem?_setIfInBounds_ne hne]
    exact h.fr j hj
  · by_cases hji : j = i
    · subst hji
      rw [hi] at hj
      cases hj
      rw [hd] at hd'
      cases hd'
      exact ⟨v, by rw [Array.getElem?_setIfInBounds_self]; simp [hlt], hv⟩
    · rcases getD_set' hlj with e | hlj
      · exact absurd e hji
      · have hne : d ≠ d' := fun e => hji (apartO_of hap j i o' o d (by rw [Array.getElem?_toList]; exact hj) (by rw [Array.getElem?_toList]; exact hi) (by rw [e]; exact hd') hd)
        obtain ⟨u, h1, h2⟩ := h.tv j o' d' hj hlj hd'
        exact ⟨u, by rw [Array.getElem?_setIfInBounds_ne hne]; exact h1, hR _ _ _ _ hm h2⟩

theorem range'_cons {y n : Nat} (h : y < n) : List.range' y (n - y) = y :: List.range' (y + 1) (n - (y + 1)) := by
  rw [show n - y = (n - (y + 1)) + 1 by omega, List.range'_succ]

/-- THE LAW. -/
theorem wp_tail {ops : Array Oper} {A0 : Act} {W : World} {Q : Exit → Act → World → Prop} {id : Nat} (y : Nat) (v0 : Value) (o0 : Oper) (d0 : Nat) (R : Nat → World → Value → Prop) (hR : ∀ i w w' v, Nu w w' → R i w v → R i w' v) (hF : Try.prog.follows Departure.mixedOrders = true) (hk : tailB ops A0.tmps.size y = true)
    (ho0 : ops[0]? = some o0) (hd0 : o0.dst = some d0) (hsel : Region.noSelect ops = true) (hfree : Region.free .any ops (Array.replicate ops.size false) 0 = true) (hrdy : (Region.ready .any ops (Array.replicate ops.size false)).contains 0 = true) (hQ0 : ∀ c a w, Q (.panic c) (a.put o0.dst v0) w → Q (.panic c) a w) (hy0 : Yields Try.prog ops o0 v0 A0) (hR0 : R 0 W.drew v0)
    (hcl : ∀ l : Array Bool, Closed ops l → l.getD 0 false = true → (∀ o, ops[y]? = some o → ∀ e ∈ o.after, Region.binds .any e = true → l.getD e.on false = true) → ∀ i, i < y → l.getD i false = true)
    (hstep : ∀ (i : Nat) (o : Oper) (d : Nat) (a : Act) (w : World), i < y → ops[i]? = some o → o.dst = some d → Nu W w → (∀ j : Nat, (ops.toList.all fun o => o.dst != some j) = true → a.tmps[j]? = A0.tmps[j]?) → HadR R a w (waits ops o) →
      ∀ K : Act → World → Prop, (∀ w' v, Nu w w' → R i w' v → K ⟨a.tmps.setIfInBounds d v, a.defers⟩ w') → if Region.wanted o (yielded ops a.tmps) = true then Oper.wp Try.prog o a w K Q else K (a.put o.dst undef) w)
    (htail : ∀ (a : Act) (w : World), Nu W w → a.defers = A0.defers → a.tmps.size = A0.tmps.size → (∀ j : Nat, (∀ (i : Nat) (o : Oper), i < y → ops[i]? = some o → o.dst ≠ some j) → a.tmps[j]? = A0.tmps[j]?) → (∀ (i : Nat) (o : Oper) (d : Nat), i < y → ops[i]? = some o → o.dst = some d → ∃ v, a.tmps[d]? = some v ∧ R i w v) →
      tailW ops Q (List.range' y (ops.size - y)) a w) :
    Code.wp Try.prog (Code.region id ops true) Q A0 W := by
  have hk' := hk
  simp only [tailB, Bool.and_eq_true, List.all_eq_true, decide_eq_true_eq, List.mem_range] at hk'
  obtain ⟨⟨⟨⟨⟨hap, hahd⟩, hy1⟩, hy2⟩, hdst⟩, htl⟩ := hk'
  have hfalse : ∀ i, (Array.replicate ops.size false).getD i false = false := fun i => getD_none
  have hahead : ∀ (i : Nat) o, ops[i]? = some o → ∀ e ∈ o.after, Region.binds .any e = true → e.on < i := fun i o ho e he hb => by
    have := aheadB_of hahd i o (by rw [Array.getElem?_toList]; exact ho) e he hb
    omega
  have hdsts : ∀ (i : Nat) o, i < y → ops[i]? = some o → ∃ d, o.dst = some d ∧ d < A0.tmps.size := fun i o hi ho => by
    have := hdst i hi
    rw [ho] at this
    simp only at this
    cases hd : o.dst with
    | none => rw [hd] at this; cases this
    | some d => rw [hd] at this; exact ⟨d, rfl, by simpa using this⟩
  have hgd : ∀ (j : Nat) o, y ≤ j → ops[j]? = some o → o.guard = none ∧ (j = y ∨ ∃ e ∈ o.after, e.on + 1 = j ∧ Region.binds .any e = true) := fun j o hj ho => by
    have hjs : j < ops.size := (Array.getElem?_eq_some_iff.1 ho).1
    have := htl j hjs
    rw [ho, Bool.or_eq_true, decide_eq_true_eq] at this
    rcases this with h | h
    · omega
    · simp only [Bool.and_eq_true, Bool.or_eq_true, beq_iff_eq, List.any_eq_true] at h
      refine ⟨by simpa using h.1, h.2.imp (fun h => h) fun ⟨e, he, h1, h2⟩ => ⟨e, Array.mem_toList_iff.1 he, h1, h2⟩⟩
  have hpos : 0 < ops.size := by omega
  obtain ⟨fuel, hfu⟩ : ∃ f, ops.size = f + 1 := ⟨ops.size - 1, by omega⟩
  refine wp_region_any hF ?_
  show wpAny Try.prog .any ops Q ops.size (Array.replicate ops.size false) A0 W.drew
  have hun : unlisted ((Array.replicate ops.size false).setIfInBounds 0 true) ≤ fuel := by
    have h1 := unlisted_set (l := Array.replicate ops.size false) (i := 0) (by rw [Array.getD_eq_getD_getElem?, Array.getElem?_replicate, if_pos hpos]; rfl)
    have h2 : unlisted (Array.replicate ops.size false) = ops.size := unlisted_start _
    omega
  obtain ⟨l0, hl0⟩ : ∃ l0, Array.replicate ops.size false = l0 := ⟨_, rfl⟩
  rw [hl0] at hfree hrdy hun ⊢
  rw [hfu]
  refine wpAny_take (i := 0) (v := v0) ho0 hsel hfree hrdy hQ0 hy0 ?_
  have hfrm : ∀ {l : Array Bool} {a : Act} {w : World}, LT ops y R A0 W l a w → ∀ j : Nat, (ops.toList.all fun o => o.dst != some j) = true → a.tmps[j]? = A0.tmps[j]? := fun hI j hj => hI.fr j (fun i' o' _ ho' => by
    rw [List.all_eq_true] at hj
    have := hj o' (Array.mem_toList_iff.2 (Array.mem_of_getElem? ho'))
    simpa using this)
  refine wpAny_inv (fun l a w => LT ops y R A0 W l a w ∨ ∃ k, y < k ∧ k ≤ ops.size ∧ l.size = ops.size ∧ (∀ i, l.getD i false = decide (i < k)) ∧ tailW ops Q (List.range' k (ops.size - k)) a w) ?_ ?_ fuel _ _ _ hun ?_
  · intro l a w hI hrd
    have hls : l.size = ops.size := by
      rcases hI with h | ⟨k, _, _, h, _⟩
      · exact h.ls
      · exact h
    have hall : ∀ i, i < ops.size → l.getD i false = true := by
      intro i
      induction i using Nat.strongRecOn with
      | _ i ih =>
        intro hi
        cases hg : l.getD i false with
        | true => rfl
        | false =>
          exfalso
          have hmem : i ∈ Region.ready .any ops l := by
            unfold Region.ready
            rw [List.mem_filter]
            refine ⟨List.mem_range.2 hi, ?_⟩
            obtain ⟨o, ho⟩ : ∃ o, ops[i]? = some o := ⟨_, Array.getElem?_eq_getElem hi⟩
            have hgt : l.getD i true = false := by
              rw [Array.getD_eq_getD_getElem?, Array.getElem?_eq_getElem (by omega)] at hg ⊢
              simpa using hg
            rw [hgt, ho]
            simp only [Bool.not_false, Bool.true_and, Option.map_some, Option.getD_some]
            rw [Array.all_eq_true']
            intro e he
            cases hb : Region.binds .any e with
            | false => simp
            | true => rw [ih e.on (hahead i o ho e he hb) (by have := hahead i o ho e he hb; omega)]; simp
          rw [hrd] at hmem
          cases hmem
    rcases hI with h | ⟨k, _, hkn, _, hd, ht⟩
    · have h1 := hall y hy2
      rw [h.hi y (Nat.le_refl _)] at h1
      cases h1
    · have hke : k = ops.size := by
        rcases Nat.lt_or_ge k ops.size with hlt | hge
        · have h1 := hall k hlt
          rw [hd k, decide_eq_false (by omega)] at h1
          cases h1
        · omega
      rw [hke, Nat.sub_self] at ht
      exact ht
  · intro l a w i o hI ho hli haft
    have hli' := bit_of hli
    have hil : i < ops.size := (Array.getElem?_eq_some_iff.1 ho).1
    have goT : ∀ k, y ≤ k → k < ops.size → l.size = ops.size → (∀ i, l.getD i false = decide (i < k)) → i = k → tailW ops Q (List.range' k (ops.size - k)) a w →
        if Region.wanted o (yielded ops a.tmps) = true then Oper.wp Try.prog o a w (fun a' w' => LT ops y R A0 W (l.setIfInBounds i true) a' w' ∨ ∃ k, y < k ∧ k ≤ ops.size ∧ (l.setIfInBounds i true).size = ops.size ∧ (∀ j, (l.setIfInBounds i true).getD j false = decide (j < k)) ∧ tailW ops Q (List.range' k (ops.size - k)) a' w') Q else (LT ops y R A0 W (l.setIfInBounds i true) (a.put o.dst undef) w ∨ ∃ k, y < k ∧ k ≤ ops.size ∧ (l.setIfInBounds i true).size = ops.size ∧ (∀ j, (l.setIfInBounds i true).getD j false = decide (j < k)) ∧ tailW ops Q (List.range' k (ops.size - k)) (a.put o.dst undef) w) := by
      intro k hyk hks hlz hd hik ht
      subst hik
      rw [range'_cons hks] at ht
      obtain ⟨o', ho', hg', hw⟩ := ht
      rw [ho] at ho'
      cases ho'
      rw [if_pos (want_none hg')]
      refine Oper.wp_mono (fun a' w' h => .inr ⟨i + 1, by omega, by omega, by simp [hlz], fun j => ?_, h⟩) hw
      by_cases hji : j = i
      · rw [hji, getD_set_self (by rw [hlz]; exact hks), decide_eq_true (by omega)]
      · rw [getD_set_ne hji, hd j]
        by_cases h1 : j < i
        · rw [decide_eq_true h1, decide_eq_true (by omega)]
        · rw [decide_eq_false h1, decide_eq_false (by omega)]
    rcases hI with hI | ⟨k, hyk, hks, hlz, hd, ht⟩
    · rcases Nat.lt_or_ge i y with hiy | hiy
      · obtain ⟨d, hdd, hdN⟩ := hdsts i o hiy ho
        exact hstep i o d a w hiy ho hdd hI.nu (hfrm hI) (hadR_of hI.tv _ (fun e he => by
          rw [List.mem_filter] at he
          exact haft e (Array.mem_toList_iff.1 he.1) he.2)) _ (fun w' v hm hv => .inl (hI.put hR hap hiy hdN hm ho hdd haft hv))
      · have hie : i = y := by
          rcases (hgd i o hiy ho).2 with h | ⟨e, he, h1, h2⟩
          · exact h
          · have h3 := haft e he h2
            rcases Nat.lt_or_ge y i with hlt | hge
            · rw [hI.hi e.on (by omega)] at h3
              cases h3
            · omega
        subst hie
        have hoth := hcl l hI.cl hI.z (fun o' ho' => by rw [ho] at ho'; cases ho'; exact haft)
        refine goT i (Nat.le_refl _) hil hI.ls (fun j => ?_) rfl (htail a w hI.nu hI.df hI.sz hI.fr (fun j o' d' hj ho' hd' => hI.tv j o' d' ho' (hoth j hj) hd'))
        by_cases hj : j < i
        · rw [hoth j hj, decide_eq_true hj]
        · rw [hI.hi j (by omega), decide_eq_false hj]
    · have hik : k ≤ i := by
        rcases Nat.lt_or_ge i k with hlt | hge
        · rw [hd i, decide_eq_true hlt] at hli'; cases hli'
        · exact hge
      have hie : i = k := by
        rcases (hgd i o (by omega) ho).2 with h | ⟨e, he, h1, h2⟩
        · omega
        · have h3 := haft e he h2
          rw [hd e.on] at h3
          have := of_decide_eq_true h3
          omega
      exact goT k (by omega) (by omega) hlz hd hie ht
  · obtain ⟨d, hd, hdN⟩ := hdsts 0 o0 hy1 ho0
    rw [hd0] at hd
    cases hd
    rw [hd0]
    have hz : (l0.setIfInBounds 0 true).getD 0 false = true := getD_set_self (by rw [← hl0]; simp; omega)
    have hne : ∀ i, i ≠ 0 → (l0.setIfInBounds 0 true).getD i false = false := fun i hi => by rw [getD_set_ne hi, ← hl0]; exact hfalse i
    refine .inl ⟨by rw [← hl0]; simp, by simp [Act.put], rfl, Mv.drew _ _, fun i hi => hne i (by omega), fun i o ho hl e he hb => ?_, hz, fun j hj => ?_, fun i o d ho hl hd => ?_⟩
    · by_cases hi0 : i = 0
      · subst hi0
        have := hahead 0 o ho e he hb
        omega
      · rw [hne i hi0] at hl; cases hl
    · have : d0 ≠ j := fun e => hj 0 o0 hy1 ho0 (by rw [hd0, e])
      simp [Act.put, Array.getElem?_setIfInBounds_ne this]
    · by_cases hi0 : i = 0
      · subst hi0
        rw [ho0] at ho
        cases ho
        rw [hd0] at hd
        cases hd
        exact ⟨v0, by simp [Act.put, hdN], hR0⟩
      · rw [hne i hi0] at hl; cases hl

/-- The slots behind the first y operations, written out. -/
theorem fill_eqT {ops : Array Oper} {A0 a : Act} {y : Nat} {vals : Nat → Value} (hk : tailB ops A0.tmps.size y = true) (hfr : ∀ j : Nat, (∀ (i : Nat) (o : Oper), i < y → ops[i]? = some o → o.dst ≠ some j) → a.tmps[j]? = A0.tmps[j]?)
    (htv : ∀ (i : Nat) (o : Oper) (d : Nat), i < y → ops[i]? = some o → o.dst = some d → a.tmps[d]? = some (vals i)) : a.tmps = fill vals (ops.toList.take y) 0 A0.tmps := by
  have hk' := hk
  simp only [tailB, Bool.and_eq_true, List.all_eq_true, decide_eq_true_eq, List.mem_range] at hk'
  obtain ⟨⟨⟨⟨⟨hap, hahd⟩, hy1⟩, hy2⟩, hdst⟩, htl⟩ := hk'
  have hget : ∀ i o, (ops.toList.take y)[i]? = some o ↔ i < y ∧ ops[i]? = some o := fun i o => by
    rw [List.getElem?_take]
    by_cases h : i < y
    · simp [h]
    · simp [h]
  have hapt : apartO (ops.toList.take y) = true := by
    have : ∀ (l : List Oper) (n : Nat), apartO l = true → apartO (l.take n) = true := by
      intro l
      induction l with
      | nil => intro n _; cases n <;> rfl
      | cons p l ih =>
        intro n h
        cases n with
        | zero => rfl
        | succ n =>
          simp only [List.take_succ_cons, apartO, Bool.and_eq_true, List.all_eq_true] at h ⊢
          exact ⟨fun q hq => h.1 q (List.mem_of_mem_take hq), ih n h.2⟩
    exact this _ _ hap
  apply Array.ext_getElem?
  intro j
  by_cases hj : ∃ (i : Nat) (o : Oper), i < y ∧ ops[i]? = some o ∧ o.dst = some j
  · obtain ⟨i, o, hi, ho, hd⟩ := hj
    have hlt : j < A0.tmps.size := by
      have := hdst i hi
      rw [ho] at this
      simp only [hd] at this
      simpa using this
    rw [htv i o j hi ho hd, fill_at vals hapt (i := i) ((hget i o).2 ⟨hi, ho⟩) hd hlt, Nat.zero_add]
  · rw [hfr j (fun i o hi ho hd => hj ⟨i, o, hi, ho, hd⟩), fill_other vals (fun i o ho hd => hj ⟨i, o, ((hget i o).1 ho).1, ((hget i o).1 ho).2, hd⟩)]

end Go.Proofs.Ytmpbganbhoknpaa
