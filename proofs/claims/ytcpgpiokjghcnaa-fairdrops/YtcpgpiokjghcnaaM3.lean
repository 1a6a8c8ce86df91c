/-
  QInv.
-/
import Derived.Orders
import Derived.WalkKit
/-
  A region that draws its order, by an invariant: whatever operations have been carried out, each that may come up keeps it; no order is gone through. Laws on the model; nothing of the program's text.
-/
namespace Go.Proofs.Ytcpgpiokjghcnaa
open Go.RowKit

def unlisted (l : Array Bool) : Nat := (l.toList.filter (! ·)).length

theorem filter_set (l : List Bool) (i : Nat) (h : l[i]? = some false) : ((l.set i true).filter (! ·)).length + 1 = (l.filter (! ·)).length := by
  induction l generalizing i with
  | nil => simp at h
  | cons a l ih =>
    cases i with
    | zero => simp at h; subst h; simp
    | succ i =>
      have := ih i (by simpa using h)
      cases a
      · simp only [List.set_cons_succ, List.filter_cons, Bool.not_false, if_true, List.length_cons]; omega
      · simp only [List.set_cons_succ, List.filter_cons, Bool.not_true, Bool.false_eq_true, if_false]; exact this

theorem unlisted_set {l : Array Bool} {i : Nat} (h : l.getD i true = false) : unlisted (l.setIfInBounds i true) + 1 = unlisted l := by
  have hi : l[i]? = some false := by
    cases hg : l[i]? with
    | none => rw [Array.getD_eq_getD_getElem?, hg] at h; cases h
    | some b => rw [Array.getD_eq_getD_getElem?, hg] at h; simp at h; rw [h]
  unfold unlisted
  rw [Array.toList_setIfInBounds]
  exact filter_set _ _ (by rw [Array.getElem?_toList]; exact hi)

theorem ready_un {md : Region.Mode} {ops : Array Oper} {l : Array Bool} {i : Nat} (h : i ∈ Region.ready md ops l) : l.getD i true = false ∧ ∃ o, ops[i]? = some o ∧ ∀ e ∈ o.after, Region.binds md e = true → l.getD e.on false = true := by
  unfold Region.ready at h
  rw [List.mem_filter] at h
  have h2 := h.2
  rw [Bool.and_eq_true] at h2
  obtain ⟨h3, h4⟩ := h2
  refine ⟨by simpa using h3, ?_⟩
  cases ho : ops[i]? with
  | none => rw [ho] at h4; cases h4
  | some o =>
    rw [ho] at h4
    refine ⟨o, rfl, fun e he hb => ?_⟩
    have h5 : (o.after.all fun e => !Region.binds md e || l.getD e.on false) = true := h4
    rw [Array.all_eq_true'] at h5
    have := h5 e he
    rw [hb] at this
    simpa using this

theorem ready_none {md : Region.Mode} {ops : Array Oper} {l : Array Bool} (h : unlisted l = 0) : Region.ready md ops l = [] := by
  rw [List.eq_nil_iff_forall_not_mem]
  intro i hi
  have := unlisted_set (ready_un hi).1
  omega

/-- THE LAW: I keeps through whatever may come up; behind all of it the post holds. -/
theorem wpAny_inv {P : Program} {md : Region.Mode} {ops : Array Oper} {Q : Exit → Act → World → Prop} (I : Array Bool → Act → World → Prop)
    (hend : ∀ l a w, I l a w → Region.ready md ops l = [] → Q .normal a w)
    (hstep : ∀ l a w i o, I l a w → ops[i]? = some o → l.getD i true = false → (∀ e ∈ o.after, Region.binds md e = true → l.getD e.on false = true) →
      if Region.wanted o (yielded ops a.tmps) = true then Oper.wp P o a w (I (l.setIfInBounds i true)) Q else I (l.setIfInBounds i true) (a.put o.dst undef) w) :
    ∀ (fuel : Nat) (l : Array Bool) (a : Act) (w : World), unlisted l ≤ fuel → I l a w → wpAny P md ops Q fuel l a w := by
  intro fuel
  induction fuel with
  | zero => exact fun l a w hu hI => ⟨ready_none (by omega), hend l a w hI (ready_none (by omega))⟩
  | succ fuel ih =>
    intro l a w hu hI
    refine ⟨fun hr => hend l a w hI hr, fun i hi => ?_⟩
    obtain ⟨h1, o, ho, h2⟩ := ready_un hi
    have hs := hstep l a w i o hI ho h1 h2
    have hun := unlisted_set h1
    unfold wpOp
    simp only [ho]
    split at hs
    · rename_i hw
      rw [if_pos hw]
      exact .inl (Oper.wp_mono (fun a' w' h => ih _ a' w' (by omega) h) hs)
    · rename_i hw
      rw [if_neg hw]
      exact ih _ _ _ (by omega) hs

theorem unlisted_start (n : Nat) : unlisted (Array.replicate n false) = n := by
  unfold unlisted
  rw [Array.toList_replicate]
  induction n with
  | zero => rfl
  | succ n ih => rw [List.replicate_succ]; simp

/-- At a region. -/
theorem wp_region_inv {P : Program} {ops : Array Oper} {Q : Exit → Act → World → Prop} {id : Nat} {a : Act} {w : World} (hP : P.follows Departure.mixedOrders = true) (I : Array Bool → Act → World → Prop) (h0 : I (Array.replicate ops.size false) a w.drew)
    (hend : ∀ l a w, I l a w → Region.ready Region.Mode.any ops l = [] → Q .normal a w)
    (hstep : ∀ l a w i o, I l a w → ops[i]? = some o → l.getD i true = false → (∀ e ∈ o.after, Region.binds Region.Mode.any e = true → l.getD e.on false = true) →
      if Region.wanted o (yielded ops a.tmps) = true then Oper.wp P o a w (I (l.setIfInBounds i true)) Q else I (l.setIfInBounds i true) (a.put o.dst undef) w) :
    Code.wp P (Code.region id ops true) Q a w :=
  wp_region_any hP (wpAny_inv I hend hstep _ _ _ _ (by rw [unlisted_start]; exact Nat.le_refl _) h0)

end Go.Proofs.Ytcpgpiokjghcnaa
