/-
  A region that draws its order, looks and makes memory, and whose last operation, behind all others, stores: what each operation's value is like, told by a relation; the store by itself.
-/
import Derived.Test.YtmpbganbhoknpaaYLooks
set_option linter.unusedSimpArgs false
namespace Go.Proofs.Ytmpbganbhoknpaa
open Go.RowKit

/-- What of such a region is told by its numbers. -/
def storesB (ops : Array Oper) (N : Nat) : Bool :=
  apartO ops.toList && (ops.toList.all fun o => match o.dst with | some d => decide (d < N) | none => true) && aheadB 0 ops.toList &&
  ((List.range ops.size).all fun i => i + 1 == ops.size || ((ops[i]?).any fun o => o.dst.isSome)) &&
  (match ops[ops.size - 1]? with | some o => o.dst.isNone && o.guard.isNone && ((List.range (ops.size - 1)).all fun i => o.after.toList.any fun e => e.on == i && Region.binds .any e) | none => false)

theorem LR.put2 {ops : Array Oper} {R : Nat → World → Value → Prop} {A0 : Act} {W : World} {l : Array Bool} {a : Act} {w w' : World} {v : Value} (h : LR ops R A0 W l a w) (hR : ∀ i w w' v, Nu w w' → R i w v → R i w' v) (hap : apartO ops.toList = true) {i : Nat} {o : Oper} {d : Nat} (hdN : d < A0.tmps.size) (hm : Nu w w') (hi : ops[i]? = some o) (hd : o.dst = some d) (hv : R i w' v) :
    LR ops R A0 W (l.setIfInBounds i true) ⟨a.tmps.setIfInBounds d v, a.defers⟩ w' := by
  have hlt : d < a.tmps.size := by rw [h.sz]; exact hdN
  refine ⟨by simp [h.ls], by simp [h.sz], h.df, mv0 h.nu hm, fun j hj => ?_, fun j o' d' hj hlj hd' => ?_⟩
  · have hne : d ≠ j := fun e => hj i o hi (by rw [hd, e])
    rw [Array.getElem?_setIfInBounds_ne hne]
    exact h.fr j hj
  · by_cases hji : j = i
    · subst hji
      rw [hi] at hj
      cases hj
      rw [hd] at hd'
      cases hd'
      exact ⟨v, by rw [Array.getElem?_setIfInBounds_self]; simp [hlt], hv⟩
    · rcases getD_set' hlj with e | hlj
      · exact absurd e hji
      · have hne : d ≠ d' := fun e => hji (apartO_of hap j i o' o d (by rw [Array.getElem?_toList]; exact hj) (by rw [Array.getElem?_toList]; exact hi) (by rw [e]; exact hd') hd)
        obtain ⟨u, h1, h2⟩ := h.tv j o' d' hj hlj hd'
        exact ⟨u, by rw [Array.getElem?_setIfInBounds_ne hne]; exact h1, hR _ _ _ _ hm h2⟩

/-- THE LAW. -/
theorem wp_lookS {ops : Array Oper} {A0 : Act} {W : World} {Q : Exit → Act → World → Prop} {id : Nat} (R : Nat → World → Value → Prop) (hR : ∀ i w w' v, Nu w w' → R i w v → R i w' v) (hF : Try.prog.follows Departure.mixedOrders = true) (hk : storesB ops A0.tmps.size = true)
    (hstep : ∀ (i : Nat) (o : Oper) (d : Nat) (a : Act) (w : World), ops[i]? = some o → o.dst = some d → Nu W w → (∀ j : Nat, (ops.toList.all fun o => o.dst != some j) = true → a.tmps[j]? = A0.tmps[j]?) → HadR R a w (waits ops o) →
      ∀ K : Act → World → Prop, (∀ w' v, Nu w w' → R i w' v → K ⟨a.tmps.setIfInBounds d v, a.defers⟩ w') → if Region.wanted o (yielded ops a.tmps) = true then Oper.wp Try.prog o a w K Q else K (a.put o.dst undef) w)
    (hlast : ∀ (o : Oper) (a : Act) (w : World), ops[ops.size - 1]? = some o → Nu W w → a.defers = A0.defers → a.tmps.size = A0.tmps.size → (∀ j : Nat, (ops.toList.all fun o => o.dst != some j) = true → a.tmps[j]? = A0.tmps[j]?) → (∀ (i : Nat) (o : Oper) (d : Nat), ops[i]? = some o → o.dst = some d → ∃ v, a.tmps[d]? = some v ∧ R i w v) →
      Oper.wp Try.prog o a w (fun a' w' => Q .normal a' w') Q) :
    Code.wp Try.prog (Code.region id ops true) Q A0 W := by
  have hk' := hk
  simp only [storesB, Bool.and_eq_true, List.all_eq_true] at hk'
  obtain ⟨⟨⟨⟨hap, hdst⟩, hahd⟩, hsome⟩, hlst⟩ := hk'
  cases hol : ops[ops.size - 1]? with
  | none => rw [hol] at hlst; cases hlst
  | some ol =>
    rw [hol] at hlst
    simp only [Bool.and_eq_true, List.all_eq_true, List.mem_range] at hlst
    obtain ⟨⟨hln, hlg⟩, hla⟩ := hlst
    have hpos : ops.size - 1 < ops.size := (Array.getElem?_eq_some_iff.1 hol).1
    have hfalse : ∀ i, (Array.replicate ops.size false).getD i false = false := fun i => by
      rw [Array.getD_eq_getD_getElem?, Array.getElem?_replicate]
      split <;> rfl
    have hahead : ∀ (i : Nat) o, ops[i]? = some o → ∀ e ∈ o.after, Region.binds .any e = true → e.on < i := fun i o ho e he hb => by
      have := aheadB_of hahd i o (by rw [Array.getElem?_toList]; exact ho) e he hb
      omega
    have hfrm : ∀ {l : Array Bool} {a : Act} {w : World}, LR ops R A0 W l a w → ∀ j : Nat, (ops.toList.all fun o => o.dst != some j) = true → a.tmps[j]? = A0.tmps[j]? := fun hI j hj => hI.fr j (fun i' o' ho' => by
      rw [List.all_eq_true] at hj
      have := hj o' (Array.mem_toList_iff.2 (Array.mem_of_getElem? ho'))
      simpa using this)
    refine wp_region_inv hF (fun l a w => (l.getD (ops.size - 1) false = false ∧ LR ops R A0 W l a w) ∨ (l.size = ops.size ∧ (∀ i, i < ops.size → l.getD i false = true) ∧ Q .normal a w)) ?_ ?_ ?_
    · exact .inl ⟨hfalse _, by simp, rfl, rfl, Mv.drew _ _, fun _ _ => rfl, fun i _ _ _ hl => absurd hl (by rw [hfalse]; simp)⟩
    · rintro l a w (⟨hn, hI⟩ | ⟨_, _, hq⟩) hrd
      · exfalso
        have hall : ∀ i, i < ops.size → l.getD i false = true := by
          intro i
          induction i using Nat.strongRecOn with
          | _ i ih =>
            intro hi
            cases hg : l.getD i false with
            | true => rfl
            | false =>
              exfalso
              have hmem : i ∈ Region.ready .any ops l := by
                unfold Region.ready
                rw [List.mem_filter]
                refine ⟨List.mem_range.2 hi, ?_⟩
                obtain ⟨o, ho⟩ : ∃ o, ops[i]? = some o := ⟨_, Array.getElem?_eq_getElem hi⟩
                have hgt : l.getD i true = false := by
                  have hls := hI.ls
                  rw [Array.getD_eq_getD_getElem?, Array.getElem?_eq_getElem (by omega)] at hg ⊢
                  simpa using hg
                rw [hgt, ho]
                simp only [Bool.not_false, Bool.true_and, Option.map_some, Option.getD_some]
                rw [Array.all_eq_true']
                intro e he
                cases hb : Region.binds .any e with
                | false => simp
                | true => rw [ih e.on (hahead i o ho e he hb) (by have := hahead i o ho e he hb; omega)]; simp
              rw [hrd] at hmem
              cases hmem
        rw [hall _ hpos] at hn
        cases hn
      · exact hq
    · rintro l a w i o (⟨hn, hI⟩ | ⟨hls, hall, _⟩) ho hli haft
      · have hil : i < ops.size := (Array.getElem?_eq_some_iff.1 ho).1
        by_cases hin : i = ops.size - 1
        · subst hin
          rw [hol] at ho
          cases ho
          have hwant : Region.wanted ol (yielded ops a.tmps) = true := by
            cases hg : ol.guard with
            | none => simp [Region.wanted, hg]
            | some _ => rw [hg] at hlg; cases hlg
          have hoth : ∀ k, k < ops.size - 1 → l.getD k false = true := fun k hk => by
            have := hla k hk
            rw [List.any_eq_true] at this
            obtain ⟨e, he, hb⟩ := this
            rw [Bool.and_eq_true] at hb
            have h1 := haft e (Array.mem_toList_iff.1 he) hb.2
            rwa [beq_iff_eq.1 hb.1] at h1
          rw [if_pos hwant]
          refine Oper.wp_mono (fun a' w' hq => .inr ⟨by simp [hI.ls], fun k hk => ?_, hq⟩) (hlast ol a w hol hI.nu hI.df hI.sz (hfrm hI) (fun j o' d hj hd => hI.tv j o' d hj ?_ hd))
          · by_cases hkn : k = ops.size - 1
            · subst hkn
              rw [Array.getD_eq_getD_getElem?, Array.getElem?_setIfInBounds_self]
              simp [hI.ls, hpos]
            · rw [Array.getD_eq_getD_getElem?, Array.getElem?_setIfInBounds_ne (fun e => hkn e.symm), ← Array.getD_eq_getD_getElem?]
              exact hoth k (by omega)
          · have hjl : j < ops.size := (Array.getElem?_eq_some_iff.1 hj).1
            refine hoth j ?_
            by_cases hjn : j = ops.size - 1
            · subst hjn
              rw [hol] at hj
              cases hj
              rw [hd] at hln
              cases hln
            · omega
        · have hs := hsome i (List.mem_range.2 hil)
          rw [Bool.or_eq_true, beq_iff_eq] at hs
          obtain ⟨d, hd⟩ : ∃ d, o.dst = some d := by
            rcases hs with hs | hs
            · omega
            · rw [ho] at hs
              simp only [Option.any_some] at hs
              exact Option.isSome_iff_exists.1 hs
          have hdN : d < A0.tmps.size := by
            have := hdst o (Array.mem_toList_iff.2 (Array.mem_of_getElem? ho))
            rw [hd] at this
            simpa using this
          refine hstep i o d a w ho hd hI.nu (hfrm hI) (hadR_of hI.tv _ (fun e he => ?_)) _ (fun w' v hm hv => .inl ⟨?_, hI.put2 hR hap hdN hm ho hd hv⟩)
          · rw [List.mem_filter] at he
            exact haft e (Array.mem_toList_iff.1 he.1) he.2
          · rw [Array.getD_eq_getD_getElem?, Array.getElem?_setIfInBounds_ne hin, ← Array.getD_eq_getD_getElem?]
            exact hn
      · exfalso
        have hil : i < ops.size := (Array.getElem?_eq_some_iff.1 ho).1
        have h1 := hall i hil
        rw [Array.getD_eq_getD_getElem?, Array.getElem?_eq_getElem (by omega)] at h1 hli
        simp only [Option.getD_some] at h1 hli
        rw [h1] at hli
        cases hli

/-- The slots behind a region. -/
def fill (vals : Nat → Value) : List Oper → Nat → Array Value → Array Value
  | [], _, t => t
  | o :: l, i, t => fill vals l (i + 1) (match o.dst with | some d => t.setIfInBounds d (vals i) | none => t)

theorem fill_size (vals : Nat → Value) : ∀ (l : List Oper) (k : Nat) (t : Array Value), (fill vals l k t).size = t.size
  | [], _, _ => rfl
  | o :: l, k, t => by
    rw [fill, fill_size]
    cases o.dst <;> simp

theorem fill_other (vals : Nat → Value) {j : Nat} : ∀ {l : List Oper} {k : Nat} {t : Array Value}, (∀ (i : Nat) (o : Oper), l[i]? = some o → o.dst ≠ some j) → (fill vals l k t)[j]? = t[j]?
  | [], _, _, _ => rfl
  | o :: l, k, t, h => by
    rw [fill, fill_other vals (fun i o' ho => h (i + 1) o' (by simpa using ho))]
    have h0 := h 0 o rfl
    cases hd : o.dst with
    | none => rfl
    | some d =>
      simp only
      rw [Array.getElem?_setIfInBounds_ne (fun e => h0 (by rw [hd, e]))]

theorem fill_at (vals : Nat → Value) {d : Nat} : ∀ {l : List Oper} {k i : Nat} {t : Array Value} {o : Oper}, apartO l = true → l[i]? = some o → o.dst = some d → d < t.size → (fill vals l k t)[d]? = some (vals (k + i))
  | [], _, _, _, _, _, h, _, _ => by simp at h
  | p :: l, k, i, t, o, ha, hi, hd, hlt => by
    have ha' := ha
    simp only [apartO, Bool.and_eq_true, List.all_eq_true] at ha
    cases i with
    | zero =>
      simp at hi
      subst hi
      rw [fill, fill_other vals (fun i o' ho e => ?_)]
      · rw [hd]
        simp [hlt]
      · have := ha.1 o' (List.mem_of_getElem? ho)
        rw [hd, e] at this
        simp at this
    | succ i =>
      rw [fill, fill_at vals ha.2 (i := i) (o := o) (by simpa using hi) hd (by cases p.dst <;> simpa using hlt)]
      congr 2
      omega

/-- The slots behind such a region, written out. -/
theorem fill_eq {ops : Array Oper} {A0 a : Act} {vals : Nat → Value} (hk : storesB ops A0.tmps.size = true) (hfr : ∀ j : Nat, (ops.toList.all fun o => o.dst != some j) = true → a.tmps[j]? = A0.tmps[j]?)
    (htv : ∀ (i : Nat) (o : Oper) (d : Nat), ops[i]? = some o → o.dst = some d → a.tmps[d]? = some (vals i)) : a.tmps = fill vals ops.toList 0 A0.tmps := by
  have hk' := hk
  simp only [storesB, Bool.and_eq_true, List.all_eq_true] at hk'
  obtain ⟨⟨⟨⟨hap, hdst⟩, _⟩, _⟩, _⟩ := hk'
  apply Array.ext_getElem?
  intro j
  by_cases hj : ∃ (i : Nat) (o : Oper), ops[i]? = some o ∧ o.dst = some j
  · obtain ⟨i, o, ho, hd⟩ := hj
    have hlt : j < A0.tmps.size := by
      have := hdst o (Array.mem_toList_iff.2 (Array.mem_of_getElem? ho))
      rw [hd] at this
      simpa using this
    rw [htv i o j ho hd, fill_at vals hap (i := i) (by rw [Array.getElem?_toList]; exact ho) hd hlt, Nat.zero_add]
  · rw [hfr j (by
      rw [List.all_eq_true]
      intro o ho
      obtain ⟨i, hi, rfl⟩ := List.mem_iff_getElem.1 ho
      rw [bne_iff_ne]
      exact fun e => hj ⟨i, _, by rw [← Array.getElem?_toList, List.getElem?_eq_getElem hi], e⟩), fill_other vals (fun i o ho hd => hj ⟨i, o, by rw [← Array.getElem?_toList]; exact ho, hd⟩)]

end Go.Proofs.Ytmpbganbhoknpaa
