/-
  VPlan, VSteps.
-/
import Derived.Test.YtidihaecgmbhpabDoorM19
import Derived.Test.YtidihaecgmbhpabDoorM3
/-
  Regions that make trees, in whatever order, as many parts as may be: one law for all of them.
-/
set_option linter.unusedSimpArgs false
set_option linter.unusedVariables false
namespace Go.Proofs.YtidihaecgmbhpabDoor
open Go.RowKit Q

/-- What an operation gives: a value that is known; a tree, at a price; a row of trees; the result is laid. -/
inductive NO where
  | fix (d : Nat) (v : Value)
  | tree (d : Nat) (t : T) (c : Nat)
  | row (d : Nat) (l : List T)
  | store (t : T)

def NO.dst : NO → Option Nat | .fix d _ => some d | .tree d _ _ => some d | .row d _ => some d | .store _ => none
def NO.cost : NO → Nat | .tree _ _ c => c | _ => 0
def NO.sto : NO → Bool | .store _ => true | _ => false

/-- A row of trees of one's own. -/
def OwnL (P : Nat → Prop) (w : World) (v : Value) (l : List T) : Prop := (∃ ao n c, v = .slice ao n c) ∧ ∀ k : Int, (-9223372036854775808 ≤ k ∧ k ≤ 9223372036854775807) → OwnP P w (.agg #[.int .i64 k, .string ⟨#[]⟩, v]) (.mk k [] l)
theorem OwnL.mv {S P : Nat → Prop} {w w' : World} {v : Value} {l : List T} (h : OwnL P w v l) (hm : Mv S w w') (hS : ∀ x, P x → ¬ S x) : OwnL P w' v l := ⟨h.1, fun k hk => (h.2 k hk).mv hm (fun x hx _ => hS x hx)⟩
theorem OwnL.nil (P : Nat → Prop) (w : World) : OwnL P w (.slice none 0 0) [] := ⟨⟨_, _, _, rfl⟩, fun k hk => ⟨_, _, _, 0, rfl, .leaf k [] none 0 hk (by simp), fun m _ => Sp.nil _ _ m⟩⟩

/-- The result's block. -/
def RB (w : World) (rb : Nat) (d0 d1 d2 : Value) : Prop := w.heap[rb]? = some (.cells #[d0, d1, d2] 24 (0, 0)) ∧ Cell3 d0 d1 d2

/-- What holds where it is done. -/
def NO.Holds (P0 : Nat → Prop) (rb : Nat) (w : World) (tm : Array Value) : NO → Prop
  | .fix d v => tm[d]? = some v
  | .tree d t _ => ∃ v, tm[d]? = some v ∧ OwnP P0 w v t
  | .row d l => ∃ v, tm[d]? = some v ∧ OwnL P0 w v l
  | .store t => ∃ d0 d1 d2, RB w rb d0 d1 d2 ∧ OwnP P0 w (.agg #[d0, d1, d2]) t

theorem NO.Holds.keep {S P0 : Nat → Prop} {rb : Nat} {w w' : World} {tm tm' : Array Value} {po : NO} (h : po.Holds P0 rb w tm) (hm : Mv S w w') (hS : ∀ x, P0 x → ¬ S x) (hrb : po.sto = true → ¬ S rb) (ht : ∀ d, po.dst = some d → tm'[d]? = tm[d]?) : po.Holds P0 rb w' tm' := by
  cases po with
  | fix d v => exact (ht d rfl).trans h
  | tree d t c =>
    obtain ⟨v, h1, h2⟩ := h
    exact ⟨v, (ht d rfl).trans h1, h2.mv hm (fun x hx _ => hS x hx)⟩
  | row d l =>
    obtain ⟨v, h1, h2⟩ := h
    exact ⟨v, (ht d rfl).trans h1, h2.mv hm hS⟩
  | store t =>
    obtain ⟨d0, d1, d2, h1, h2⟩ := h
    exact ⟨d0, d1, d2, ⟨hm.heap h1.1 (hrb rfl), h1.2⟩, h2.mv hm (fun x hx _ => hS x hx)⟩

/-- What is made so far; in all. -/
def spentL : List NO → List Bool → Nat
  | p :: ps, b :: bs => (if b = true then p.cost else 0) + spentL ps bs
  | _, _ => 0
def total (plan : List NO) : Nat := (plan.map NO.cost).sum
theorem spent_le : ∀ (plan : List NO) (bs : List Bool), spentL plan bs ≤ total plan
  | [], _ => by simp [spentL]
  | p :: ps, [] => by simp [spentL]
  | p :: ps, b :: bs => by
    have := spent_le ps bs
    simp only [spentL, total, List.map_cons, List.sum_cons] at this ⊢
    split <;> omega
theorem spent_set : ∀ (plan : List NO) (bs : List Bool) (i : Nat) (po : NO), plan[i]? = some po → bs[i]? = some false → spentL plan (bs.set i true) = spentL plan bs + po.cost
  | [], _, i, po, h, _ => by simp at h
  | p :: ps, [], i, po, _, h => by simp at h
  | p :: ps, b :: bs, 0, po, h, h' => by
    simp at h h'
    subst h h'
    simp [spentL]
    omega
  | p :: ps, b :: bs, i + 1, po, h, h' => by
    have := spent_set ps bs i po (by simpa using h) (by simpa using h')
    simp only [List.set_cons_succ, spentL, this]
    omega
theorem spent_all : ∀ (plan : List NO) (bs : List Bool), plan.length = bs.length → (∀ i, i < bs.length → bs[i]? = some true) → spentL plan bs = total plan
  | [], [], _, _ => rfl
  | [], _ :: _, h, _ => by simp at h
  | _ :: _, [], h, _ => by simp at h
  | p :: ps, b :: bs, h, ha => by
    have h0 := ha 0 (by simp)
    simp at h0
    subst h0
    have := spent_all ps bs (by simpa using h) (fun i hi => by simpa using ha (i + 1) (by simpa using hi))
    simp only [spentL, total, List.map_cons, List.sum_cons, this, if_true]

/-- What a step may take for granted. -/
structure NEnv (plan : List NO) (P0 : Nat → Prop) (nb rb : Nat) (A0 : Act) (W : World) (o : Oper) (a : Act) (w : World) : Prop where
  dep : ∀ e ∈ o.after, Region.binds .any e = true → ∀ po, plan[e.on]? = some po → po.Holds P0 rb w a.tmps
  fr : ∀ j : Nat, (∀ po ∈ plan, po.dst ≠ some j) → a.tmps[j]? = A0.tmps[j]?
  mv : Mv (fun x => x = nb ∨ x = rb) W w

/-- A step does what the plan says. -/
def NStep (plan : List NO) (P0 : Nat → Prop) (nb rb : Nat) (A0 : Act) (W : World) (o : Oper) : NO → Prop
  | .fix d v => ∀ a w, NEnv plan P0 nb rb A0 W o a w → ∀ K Q, (∀ w', Nu w w' → K ⟨a.tmps.setIfInBounds d v, a.defers⟩ w') → Oper.wp Tryd.prog o a w K Q
  | .tree d t c => ∀ a w, NEnv plan P0 nb rb A0 W o a w → ∀ m, NrIs w nb m → ∀ K Q, (c ≤ m → ∀ w' v, Mv (· = nb) w w' → NrIs w' nb (m - c) → OwnP P0 w' v t → K ⟨a.tmps.setIfInBounds d v, a.defers⟩ w') → (m < c → ∀ w', Mv (· = nb) w w' → Q (.panic (thrown 2 0)) a w') → Oper.wp Tryd.prog o a w K Q
  | .row d l => ∀ a w, NEnv plan P0 nb rb A0 W o a w → ∀ K Q, (∀ w' v, Nu w w' → OwnL P0 w' v l → K ⟨a.tmps.setIfInBounds d v, a.defers⟩ w') → Oper.wp Tryd.prog o a w K Q
  | .store t => ∀ a w, NEnv plan P0 nb rb A0 W o a w → (∃ d0 d1 d2, RB w rb d0 d1 d2) → ∀ K Q, (∀ w' d0 d1 d2, Mv (· = rb) w w' → RB w' rb d0 d1 d2 → OwnP P0 w (.agg #[d0, d1, d2]) t → K a w') → Oper.wp Tryd.prog o a w K Q

/-- What is known on the way. -/
structure NI (plan : List NO) (P0 : Nat → Prop) (nb rb m : Nat) (A0 : Act) (W : World) (n : Nat) (l : Array Bool) (a : Act) (w : World) : Prop where
  ls : l.size = n
  sz : a.tmps.size = A0.tmps.size
  df : a.defers = A0.defers
  mv : Mv (fun x => x = nb ∨ x = rb) W w
  fr : ∀ j : Nat, (∀ po ∈ plan, po.dst ≠ some j) → a.tmps[j]? = A0.tmps[j]?
  hd : ∀ (i : Nat) po, plan[i]? = some po → l.getD i false = true → po.Holds P0 rb w a.tmps
  nr : NrIs w nb (m - spentL plan l.toList)
  sp : spentL plan l.toList ≤ m
  r : ∃ d0 d1 d2, RB w rb d0 d1 d2

/-- The plan as a whole. -/
structure NPlan (plan : List NO) (ops : Array Oper) (N : Nat) (P0 : Nat → Prop) (nb rb : Nat) (A0 : Act) (W : World) : Prop where
  m : ∀ i o, ops[i]? = some o → ∃ po, plan[i]? = some po ∧ o.guard = none ∧ (∀ e ∈ o.after, Region.binds .any e = true → e.on < i) ∧ NStep plan P0 nb rb A0 W o po
  len : plan.length = ops.size
  apart : ∀ (i j : Nat) po po' d, plan[i]? = some po → plan[j]? = some po' → po.dst = some d → po'.dst = some d → i = j
  lt : ∀ po ∈ plan, ∀ d, po.dst = some d → d < N
  one : ∀ (i j : Nat) po po', plan[i]? = some po → plan[j]? = some po' → po.sto = true → po'.sto = true → i = j

theorem getD_setV' {l : Array Bool} {i j : Nat} (h : (l.setIfInBounds i true).getD j false = true) : j = i ∨ l.getD j false = true := by
  by_cases hji : j = i
  · exact .inl hji
  · right
    rw [Array.getD_eq_getD_getElem?, Array.getElem?_setIfInBounds_ne (Ne.symm hji), ← Array.getD_eq_getD_getElem?] at h
    exact h
theorem un_false {l : Array Bool} {i : Nat} (h : l.getD i true = false) : l.toList[i]? = some false := by
  rw [Array.getElem?_toList]
  cases hg : l[i]? with
  | none => rw [Array.getD_eq_getD_getElem?, hg] at h; cases h
  | some b => rw [Array.getD_eq_getD_getElem?, hg] at h; simp at h; rw [h]

section
variable {plan : List NO} {P0 : Nat → Prop} {nb rb m : Nat} {A0 : Act} {W : World} {n : Nat} {ops : Array Oper} {l : Array Bool} {a : Act} {w w' : World}

/-- One more is done. -/
theorem NI.step (h : NI plan P0 nb rb m A0 W n l a w) (hp : NPlan plan ops A0.tmps.size P0 nb rb A0 W) (hP : ∀ x, P0 x → x ≠ nb ∧ x ≠ rb) {i : Nat} {po : NO} (hi : plan[i]? = some po) (hun : l.getD i true = false) {tm' : Array Value}
    {S : Nat → Prop} (hm : Mv S w w') (hS : ∀ x, S x → x = nb ∨ x = rb) (hSr : po.sto = false → ¬ S rb) (hts : tm'.size = a.tmps.size) (htm : ∀ j, po.dst ≠ some j → tm'[j]? = a.tmps[j]?) (hH : po.Holds P0 rb w' tm')
    (hnr : NrIs w' nb (m - (spentL plan l.toList + po.cost))) (hsp : spentL plan l.toList + po.cost ≤ m) (hr : ∃ d0 d1 d2, RB w' rb d0 d1 d2) : NI plan P0 nb rb m A0 W n (l.setIfInBounds i true) ⟨tm', a.defers⟩ w' := by
  have hset : spentL plan (l.setIfInBounds i true).toList = spentL plan l.toList + po.cost := by
    rw [Array.toList_setIfInBounds]
    exact spent_set plan _ i po hi (un_false hun)
  refine ⟨by simp [h.ls], by rw [← h.sz]; exact hts, h.df, h.mv.trans hm (fun x hx => .inl (hS x hx)), fun j hj => ?_, fun j po' hj hlj => ?_, by rw [hset]; exact hnr, by rw [hset]; exact hsp, hr⟩
  · exact (htm j (hj po (List.mem_of_getElem? hi))).trans (h.fr j hj)
  · rcases getD_setV' hlj with e | hlj'
    · rw [e, hi] at hj
      cases hj
      exact hH
    · by_cases hji : j = i
      · rw [hji, hi] at hj
        cases hj
        exact hH
      · refine (h.hd j po' hj hlj').keep hm (fun x hx hs => by have := hP x hx; have := hS x hs; omega) (fun hst => hSr ?_) (fun d hd => htm d (fun e => hji (hp.apart j i po' po d hj hi hd e)))
        cases hq : po.sto with
        | false => rfl
        | true => exact absurd (hp.one j i po' po hj hi hst hq) hji

theorem all_done (hp : NPlan plan ops A0.tmps.size P0 nb rb A0 W) (hl : l.size = ops.size) (hr : Region.ready .any ops l = []) : ∀ i, i < ops.size → l.getD i false = true := by
  intro i
  induction i using Nat.strongRecOn with
  | _ i ih =>
    intro hi
    cases hg : l.getD i false with
    | true => rfl
    | false =>
      exfalso
      have hmem : i ∈ Region.ready .any ops l := by
        unfold Region.ready
        rw [List.mem_filter]
        refine ⟨List.mem_range.2 hi, ?_⟩
        obtain ⟨o, ho⟩ : ∃ o, ops[i]? = some o := ⟨_, Array.getElem?_eq_getElem hi⟩
        obtain ⟨po, _, _, haft, _⟩ := hp.m i o ho
        have hgt : l.getD i true = false := by
          rw [Array.getD_eq_getD_getElem?, Array.getElem?_eq_getElem (by omega)] at hg ⊢
          simpa using hg
        rw [hgt, ho]
        simp only [Bool.not_false, Bool.true_and, Option.map_some, Option.getD_some]
        rw [Array.all_eq_true']
        intro e he
        cases hb : Region.binds .any e with
        | false => simp
        | true => rw [ih e.on (haft e he hb) (by have := haft e he hb; omega)]; simp
      rw [hr] at hmem
      cases hmem

theorem spent_zero : ∀ (plan : List NO) (k : Nat), spentL plan (List.replicate k false) = 0 := by
  intro plan
  induction plan with
  | nil => intro k; cases k <;> rfl
  | cons p ps ih =>
    intro k
    cases k with
    | zero => rfl
    | succ k => rw [List.replicate_succ]; simp [spentL, ih k]

theorem NI.start (hN : Nu W w) (hn : NrIs W nb m) (hr : ∃ d0 d1 d2, RB W rb d0 d1 d2) : NI plan P0 nb rb m A0 W n (Array.replicate n false) A0 w := by
  have h0 : spentL plan (Array.replicate n false).toList = 0 := by rw [Array.toList_replicate]; exact spent_zero _ _
  have hfalse : ∀ i, (Array.replicate n false).getD i false = false := fun i => by
    rw [Array.getD_eq_getD_getElem?, Array.getElem?_replicate]
    split <;> rfl
  obtain ⟨d0, d1, d2, hb⟩ := hr
  exact ⟨by simp, rfl, rfl, hN.mono (fun _ h => h.elim), fun _ _ => rfl, fun i _ _ hl => absurd hl (by rw [hfalse]; simp), by rw [h0]; exact hn.nu hN, by rw [h0]; omega, d0, d1, d2, hN.heap hb.1 id, hb.2⟩

/-- Behind all of it. -/
theorem NI.fin {Q : Exit → Act → World → Prop} (hp : NPlan plan ops A0.tmps.size P0 nb rb A0 W)
    (hQ : total plan ≤ m → ∀ a w, a.defers = A0.defers → (∀ j : Nat, (∀ po ∈ plan, po.dst ≠ some j) → a.tmps[j]? = A0.tmps[j]?) → Mv (fun x => x = nb ∨ x = rb) W w → NrIs w nb (m - total plan) →
      (∀ t, .store t ∈ plan → ∃ d0 d1 d2, RB w rb d0 d1 d2 ∧ OwnP P0 w (.agg #[d0, d1, d2]) t) → (∀ d v, .fix d v ∈ plan → a.tmps[d]? = some v) → Q .normal a w)
    (hI : NI plan P0 nb rb m A0 W ops.size l a w) (hall : ∀ i, i < ops.size → l.getD i false = true) : Q .normal a w := by
  have hspent : spentL plan l.toList = total plan := spent_all plan _ (by rw [hp.len, Array.length_toList, hI.ls]) (fun i hi => by
    rw [Array.length_toList, hI.ls] at hi
    have := hall i hi
    rw [Array.getElem?_toList]
    rw [Array.getD_eq_getD_getElem?] at this
    cases hg : l[i]? with
    | none => rw [hg] at this; cases this
    | some b => rw [hg] at this; simp at this; rw [this])
  have hs := hI.sp
  have hnr' := hI.nr
  rw [hspent] at hs hnr'
  have key : ∀ po ∈ plan, po.Holds P0 rb w a.tmps := fun po hpo => by
    obtain ⟨i, hi, he⟩ := List.getElem_of_mem hpo
    exact hI.hd i _ (by rw [List.getElem?_eq_getElem hi, he]) (hall i (by rw [← hp.len]; exact hi))
  exact hQ hs a w hI.df hI.fr hI.mv hnr' (fun t ht => key _ ht) (fun d v hv => key _ hv)

/-- One step. -/
theorem NI.go {Q : Exit → Act → World → Prop} (hp : NPlan plan ops A0.tmps.size P0 nb rb A0 W) (hP : ∀ x, P0 x → x ≠ nb ∧ x ≠ rb) (hnr : nb ≠ rb)
    (hX : m < total plan → ∀ a w, a.defers = A0.defers → Mv (fun x => x = nb ∨ x = rb) W w → Q (.panic (thrown 2 0)) a w)
    {i : Nat} {o : Oper} (hI : NI plan P0 nb rb m A0 W ops.size l a w) (ho : ops[i]? = some o) (hun : l.getD i true = false) (haft : ∀ e ∈ o.after, Region.binds Region.Mode.any e = true → l.getD e.on false = true) :
    Region.wanted o (yielded ops a.tmps) = true ∧ Oper.wp Tryd.prog o a w (NI plan P0 nb rb m A0 W ops.size (l.setIfInBounds i true)) Q := by
  obtain ⟨po, hpo, hg, _, hst⟩ := hp.m i o ho
  refine ⟨by simp [Region.wanted, hg], ?_⟩
  have hE : NEnv plan P0 nb rb A0 W o a w := ⟨fun e he hb po' hp' => hI.hd _ _ hp' (haft e he hb), hI.fr, hI.mv⟩
  obtain ⟨b0, b1, b2, hrb⟩ := hI.r
  have hmem := List.mem_of_getElem? hpo
  have hput : ∀ {d : Nat} (v : Value), po.dst = some d → (a.tmps.setIfInBounds d v).size = a.tmps.size ∧ (∀ j, po.dst ≠ some j → (a.tmps.setIfInBounds d v)[j]? = a.tmps[j]?) ∧ (a.tmps.setIfInBounds d v)[d]? = some v := fun {d} v hd => by
    have hlt : d < a.tmps.size := by rw [hI.sz]; exact hp.lt po hmem d hd
    refine ⟨by simp, fun j hj => Array.getElem?_setIfInBounds_ne (fun e => hj (by rw [hd, e])), ?_⟩
    rw [Array.getElem?_setIfInBounds_self]
    simp [hlt]
  cases po with
  | fix d v =>
    refine hst a w hE _ _ (fun w' hN => ?_)
    obtain ⟨q1, q2, q3⟩ := hput v rfl
    exact hI.step hp hP hpo hun hN (fun _ h => h.elim) (fun _ h => h) q1 q2 q3 (hI.nr.nu hN) hI.sp ⟨b0, b1, b2, hN.heap hrb.1 id, hrb.2⟩
  | tree d t c =>
    refine hst a w hE _ hI.nr _ _ (fun hc w' v hm hn' ho' => ?_) (fun hc w' hm => ?_)
    · obtain ⟨q1, q2, q3⟩ := hput v rfl
      have hsp := hI.sp
      refine hI.step hp hP hpo hun hm (fun x hx => .inl hx) (fun _ e => hnr e.symm) q1 q2 ⟨v, q3, ho'⟩ ?_ (by simp only [NO.cost]; omega) ⟨b0, b1, b2, hm.heap hrb.1 (fun e => hnr e.symm), hrb.2⟩
      simp only [NO.cost]
      rw [← Nat.sub_sub]
      exact hn'
    · refine hX ?_ a w' hI.df (hI.mv.trans hm (fun x hx => .inl (.inl hx)))
      have h1 := spent_le plan ((l.toList).set i true)
      rw [spent_set plan _ i _ hpo (un_false hun)] at h1
      simp only [NO.cost] at h1
      omega
  | row d ts =>
    refine hst a w hE _ _ (fun w' v hN ho' => ?_)
    obtain ⟨q1, q2, q3⟩ := hput v rfl
    exact hI.step hp hP hpo hun hN (fun _ h => h.elim) (fun _ h => h) q1 q2 ⟨v, q3, ho'⟩ (hI.nr.nu hN) hI.sp ⟨b0, b1, b2, hN.heap hrb.1 id, hrb.2⟩
  | store t =>
    refine hst a w hE ⟨b0, b1, b2, hrb⟩ _ _ (fun w' d0 d1 d2 hm hb ho' => ?_)
    have := hI.step (tm' := a.tmps) hp hP hpo hun hm (fun x hx => .inr hx) (fun h => by cases h) rfl (fun _ _ => rfl) ⟨d0, d1, d2, hb, ho'.mv hm (fun x hx _ e => (hP x hx).2 e)⟩ (hI.nr.mv hm (fun e => hnr e)) hI.sp ⟨d0, d1, d2, hb⟩
    exact this

/-- THE LAW: where the order is drawn. -/
theorem wp_made {Q : Exit → Act → World → Prop} {rid : Nat} (hF : Tryd.prog.follows Departure.mixedOrders = true) (hp : NPlan plan ops A0.tmps.size P0 nb rb A0 W) (hP : ∀ x, P0 x → x ≠ nb ∧ x ≠ rb) (hnr : nb ≠ rb)
    (hn : NrIs W nb m) (hr : ∃ d0 d1 d2, RB W rb d0 d1 d2)
    (hQ : total plan ≤ m → ∀ a w, a.defers = A0.defers → (∀ j : Nat, (∀ po ∈ plan, po.dst ≠ some j) → a.tmps[j]? = A0.tmps[j]?) → Mv (fun x => x = nb ∨ x = rb) W w → NrIs w nb (m - total plan) →
      (∀ t, .store t ∈ plan → ∃ d0 d1 d2, RB w rb d0 d1 d2 ∧ OwnP P0 w (.agg #[d0, d1, d2]) t) → (∀ d v, .fix d v ∈ plan → a.tmps[d]? = some v) → Q .normal a w)
    (hX : m < total plan → ∀ a w, a.defers = A0.defers → Mv (fun x => x = nb ∨ x = rb) W w → Q (.panic (thrown 2 0)) a w) :
    Code.wp Tryd.prog (Code.region rid ops true) Q A0 W := by
  refine wp_region_inv hF (NI plan P0 nb rb m A0 W ops.size) (NI.start (Mv.drew _ _) hn hr) (fun l a w hI hrd => NI.fin hp hQ hI (all_done hp hI.ls hrd)) (fun l a w i o hI ho hun haft => ?_)
  obtain ⟨h1, h2⟩ := NI.go hp hP hnr hX hI ho hun haft
  rw [if_pos h1]
  exact h2

/-- .. where it is the text's. -/
theorem wp_made_in {Q : Exit → Act → World → Prop} {rid : Nat} (hp : NPlan plan ops A0.tmps.size P0 nb rb A0 W) (hP : ∀ x, P0 x → x ≠ nb ∧ x ≠ rb) (hnr : nb ≠ rb)
    (hn : NrIs W nb m) (hr : ∃ d0 d1 d2, RB W rb d0 d1 d2)
    (hQ : total plan ≤ m → ∀ a w, a.defers = A0.defers → (∀ j : Nat, (∀ po ∈ plan, po.dst ≠ some j) → a.tmps[j]? = A0.tmps[j]?) → Mv (fun x => x = nb ∨ x = rb) W w → NrIs w nb (m - total plan) →
      (∀ t, .store t ∈ plan → ∃ d0 d1 d2, RB w rb d0 d1 d2 ∧ OwnP P0 w (.agg #[d0, d1, d2]) t) → (∀ d v, .fix d v ∈ plan → a.tmps[d]? = some v) → Q .normal a w)
    (hX : m < total plan → ∀ a w, a.defers = A0.defers → Mv (fun x => x = nb ∨ x = rb) W w → Q (.panic (thrown 2 0)) a w) :
    Code.wp Tryd.prog (Code.region rid ops false) Q A0 W := by
  refine wp_region_list ?_
  have key : ∀ (rest : List Oper) (j : Nat) (l : Array Bool) (a : Act) (w : World), ops.toList.drop j = rest → NI plan P0 nb rb m A0 W ops.size l a w → (∀ i, i < j → l.getD i false = true) → (∀ i, j ≤ i → i < ops.size → l.getD i true = false) → wpList Tryd.prog ops Q rest a w := by
    intro rest
    induction rest with
    | nil =>
      intro j l a w hd hI hlo _
      have hj : ops.size ≤ j := by
        have := List.drop_eq_nil_iff.1 hd
        simpa using this
      exact NI.fin hp hQ hI (fun i hi => hlo i (by omega))
    | cons o rest ih =>
      intro j l a w hd hI hlo hhi
      have hj : j < ops.size := by
        have : (ops.toList.drop j).length = rest.length + 1 := by rw [hd]; rfl
        rw [List.length_drop, Array.length_toList] at this
        omega
      have ho : ops[j]? = some o := by
        have : (ops.toList.drop j)[0]? = some o := by rw [hd]; rfl
        rw [List.getElem?_drop, Nat.add_zero, Array.getElem?_toList] at this
        exact this
      obtain ⟨po, hpo, hg, haft, _⟩ := hp.m j o ho
      obtain ⟨h1, h2⟩ := NI.go hp hP hnr hX hI ho (hhi j (Nat.le_refl _) hj) (fun e he hb => hlo _ (haft e he hb))
      unfold wpList
      rw [if_pos h1]
      refine .inl (Oper.wp_mono (fun a' w' hI' => ih (j + 1) (l.setIfInBounds j true) a' w' ?_ hI' (fun i hi => ?_) (fun i hi hi2 => ?_)) h2)
      · have : ops.toList.drop (j + 1) = (ops.toList.drop j).drop 1 := by rw [List.drop_drop]
        rw [this, hd]
        rfl
      · by_cases hij : i = j
        · subst hij
          rw [Array.getD_eq_getD_getElem?, Array.getElem?_setIfInBounds_self]
          simp [hI.ls, hj]
        · rw [Array.getD_eq_getD_getElem?, Array.getElem?_setIfInBounds_ne (fun e => hij e.symm), ← Array.getD_eq_getD_getElem?]
          exact hlo i (by omega)
      · rw [Array.getD_eq_getD_getElem?, Array.getElem?_setIfInBounds_ne (by omega), ← Array.getD_eq_getD_getElem?]
        exact hhi i (by omega) hi2
  refine key ops.toList 0 _ A0 W (by simp) (NI.start (Mv.refl _ _) hn hr) (fun i hi => by omega) (fun i _ hi => ?_)
  rw [Array.getD_eq_getD_getElem?, Array.getElem?_replicate]
  simp [hi]

end

end Go.Proofs.YtidihaecgmbhpabDoor
/-
  The steps of such regions, kind by kind.
-/
set_option linter.unusedSimpArgs false
set_option linter.unusedVariables false
namespace Go.Proofs.YtidihaecgmbhpabDoor
open Go.RowKit Q

section
variable {plan : List NO} {P0 : Nat → Prop} {nb rb : Nat} {A0 : Act} {W : World} {o : Oper}

/-- What a slot holds at a step. -/
def Slot (plan : List NO) (P0 : Nat → Prop) (nb rb : Nat) (A0 : Act) (W : World) (o : Oper) (s : Nat) (v : Value) : Prop := ∀ a w, NEnv plan P0 nb rb A0 W o a w → a.tmps[s]? = some v
def TSlot (plan : List NO) (P0 : Nat → Prop) (nb rb : Nat) (A0 : Act) (W : World) (o : Oper) (s : Nat) (t : T) : Prop := ∀ a w, NEnv plan P0 nb rb A0 W o a w → ∃ v, a.tmps[s]? = some v ∧ OwnP P0 w v t
/-- .. an operand. -/
def Opnd (plan : List NO) (P0 : Nat → Prop) (nb rb : Nat) (A0 : Act) (W : World) (o : Oper) (x : Operand) (v : Value) : Prop := ∀ a w, NEnv plan P0 nb rb A0 W o a w → a.eval x = v
def LOpnd (plan : List NO) (P0 : Nat → Prop) (nb rb : Nat) (A0 : Act) (W : World) (o : Oper) (x : Operand) (l : List T) : Prop := ∀ a w, NEnv plan P0 nb rb A0 W o a w → OwnL P0 w (a.eval x) l

theorem Slot.fr {s : Nat} {v : Value} (h : ∀ po ∈ plan, po.dst ≠ some s) (h0 : A0.tmps[s]? = some v) : Slot plan P0 nb rb A0 W o s v := fun a w hE => (hE.fr s h).trans h0
theorem Slot.dep {s i : Nat} {v : Value} (he : ∃ e ∈ o.after, e.on = i ∧ Region.binds .any e = true) (hp : plan[i]? = some (.fix s v)) : Slot plan P0 nb rb A0 W o s v := fun a w hE => by
  obtain ⟨e, h1, rfl, h2⟩ := he
  exact hE.dep _ h1 h2 _ hp
theorem TSlot.dep {s i c : Nat} {t : T} (he : ∃ e ∈ o.after, e.on = i ∧ Region.binds .any e = true) (hp : plan[i]? = some (.tree s t c)) : TSlot plan P0 nb rb A0 W o s t := fun a w hE => by
  obtain ⟨e, h1, rfl, h2⟩ := he
  exact hE.dep _ h1 h2 _ hp
theorem LOpnd.dep {s i : Nat} {l : List T} (he : ∃ e ∈ o.after, e.on = i ∧ Region.binds .any e = true) (hp : plan[i]? = some (.row s l)) : LOpnd plan P0 nb rb A0 W o (.tmp s) l := fun a w hE => by
  obtain ⟨e, g1, rfl, g2⟩ := he
  obtain ⟨v, h1, h2⟩ := hE.dep _ g1 g2 _ hp
  have : a.eval (.tmp s) = v := by simp [Act.eval, h1]
  rw [this]
  exact h2
theorem LOpnd.nil : LOpnd plan P0 nb rb A0 W o (.const (.slice none 0 0)) [] := fun a w hE => OwnL.nil P0 w
theorem Opnd.const {v : Value} : Opnd plan P0 nb rb A0 W o (.const v) v := fun a w hE => rfl
theorem Slot.opnd {s : Nat} {v : Value} (h : Slot plan P0 nb rb A0 W o s v) : Opnd plan P0 nb rb A0 W o (.tmp s) v := fun a w hE => by simp [Act.eval, h a w hE]

theorem st_move {d s : Nat} {v : Value} (hd : o.dst = some d) (ho : o.op = .move (.tmp s)) (hs : Slot plan P0 nb rb A0 W o s v) : NStep plan P0 nb rb A0 W o (.fix d v) := fun a w hE K Q hK => by
  have he := hs.opnd a w hE
  unfold Oper.wp execOp
  simp only [ho, hd, he]
  go_simp
  exact hK w (Mv.refl _ _)
theorem st_nil {d s : Nat} {p : Addr} (hd : o.dst = some d) (ho : o.op = .nilCheck (.tmp s)) (hs : Slot plan P0 nb rb A0 W o s (.pointer (some p))) : NStep plan P0 nb rb A0 W o (.fix d (.pointer (some p))) := fun a w hE K Q hK => by
  have he := hs.opnd a w hE
  unfold Oper.wp execOp
  simp only [ho, hd, he]
  go_simp
  exact hK w (Mv.refl _ _)
theorem st_field0 {d s b i : Nat} (hd : o.dst = some d) (ho : o.op = .fieldAddr 24 (.tmp s) 0) (hs : Slot plan P0 nb rb A0 W o s (.pointer (some ⟨b, i, none⟩))) : NStep plan P0 nb rb A0 W o (.fix d (.pointer (some ⟨b, i, none⟩))) := fun a w hE K Q hK => by
  have he := hs.opnd a w hE
  unfold Oper.wp execOp
  simp only [ho, hd, he]
  go_simp
  exact hK w (Mv.refl _ _)
theorem st_field1 {d s b i : Nat} (hd : o.dst = some d) (ho : o.op = .fieldAddr 24 (.tmp s) 1) (hs : Slot plan P0 nb rb A0 W o s (.pointer (some ⟨b, i, none⟩))) : NStep plan P0 nb rb A0 W o (.fix d (.pointer (some ⟨b, i + 1, none⟩))) := fun a w hE K Q hK => by
  have he := hs.opnd a w hE
  unfold Oper.wp execOp
  simp only [ho, hd, he]
  go_simp
  exact hK w (Mv.refl _ _)
theorem st_field2 {d s b i : Nat} (hd : o.dst = some d) (ho : o.op = .fieldAddr 24 (.tmp s) 2) (hs : Slot plan P0 nb rb A0 W o s (.pointer (some ⟨b, i, none⟩))) : NStep plan P0 nb rb A0 W o (.fix d (.pointer (some ⟨b, i + 2, none⟩))) := fun a w hE K Q hK => by
  have he := hs.opnd a w hE
  unfold Oper.wp execOp
  simp only [ho, hd, he]
  go_simp
  exact hK w (Mv.refl _ _)
theorem st_loadI {d s b i : Nat} {k : Int} (hd : o.dst = some d) (ho : o.op = .load 3 (.tmp s)) (hs : Slot plan P0 nb rb A0 W o s (.pointer (some ⟨b, i, none⟩))) (hc : W.cell? ⟨b, i, none⟩ = some (.int .i64 k)) (hb : b ≠ nb ∧ b ≠ rb) : NStep plan P0 nb rb A0 W o (.fix d (.int .i64 k)) := fun a w hE K Q hK => by
  have he := hs.opnd a w hE
  have hc' := cell_mv hE.mv hc (by omega)
  unfold Oper.wp execOp
  simp only [ho, hd, he]
  go_simp
  exact hK w (Mv.refl _ _)
theorem st_loadS {d s b i : Nat} {k : ByteArray} (hd : o.dst = some d) (ho : o.op = .load 9 (.tmp s)) (hs : Slot plan P0 nb rb A0 W o s (.pointer (some ⟨b, i, none⟩))) (hc : W.cell? ⟨b, i, none⟩ = some (.string k)) (hb : b ≠ nb ∧ b ≠ rb) : NStep plan P0 nb rb A0 W o (.fix d (.string k)) := fun a w hE K Q hK => by
  have he := hs.opnd a w hE
  have hc' := cell_mv hE.mv hc (by omega)
  unfold Oper.wp execOp
  simp only [ho, hd, he]
  go_simp
  exact hK w (Mv.refl _ _)
theorem st_loadL {d s b i : Nat} {ao : Option Addr} {n c : Nat} (hd : o.dst = some d) (ho : o.op = .load 22 (.tmp s)) (hs : Slot plan P0 nb rb A0 W o s (.pointer (some ⟨b, i, none⟩))) (hc : W.cell? ⟨b, i, none⟩ = some (.slice ao n c)) (hb : b ≠ nb ∧ b ≠ rb) : NStep plan P0 nb rb A0 W o (.fix d (.slice ao n c)) := fun a w hE K Q hK => by
  have he := hs.opnd a w hE
  have hc' := cell_mv hE.mv hc (by omega)
  unfold Oper.wp execOp
  simp only [ho, hd, he]
  go_simp
  exact hK w (Mv.refl _ _)
theorem st_ix0 {d s b i n c : Nat} (hd : o.dst = some d) (ho : o.op = .indexAddr 22 (.tmp s) (.const (.int .i64 0))) (hs : Slot plan P0 nb rb A0 W o s (.slice (some ⟨b, i, none⟩) (n + 1) c)) : NStep plan P0 nb rb A0 W o (.fix d (.pointer (some ⟨b, i, none⟩))) := fun a w hE K Q hK => by
  have he := hs.opnd a w hE
  have hn : (0 : Int) < ((n + 1 : Nat) : Int) := by omega
  unfold Oper.wp execOp
  simp only [ho, hd, he]
  go_simp
  exact hK w (Mv.refl _ _)
theorem st_ix1 {d s b i c : Nat} (hd : o.dst = some d) (ho : o.op = .indexAddr 22 (.tmp s) (.const (.int .i64 1))) (hs : Slot plan P0 nb rb A0 W o s (.slice (some ⟨b, i, none⟩) 2 c)) : NStep plan P0 nb rb A0 W o (.fix d (.pointer (some ⟨b, i + 3, none⟩))) := fun a w hE K Q hK => by
  have he := hs.opnd a w hE
  unfold Oper.wp execOp
  simp only [ho, hd, he]
  go_simp
  exact hK w (Mv.refl _ _)
theorem st_opp {d s : Nat} {k : Int} (hd : o.dst = some d) (ho : o.op = .call { callee := .value (.func 68), args := #[.tmp s], argTypes := #[3] }) (hs : Slot plan P0 nb rb A0 W o s (.int .i64 k)) : NStep plan P0 nb rb A0 W o (.fix d (.int .i64 (opp k))) := fun a w hE K Q hK => by
  have he := hs a w hE
  unfold Oper.wp execOp
  simp only [ho, hd]
  go_simp
  refine Calls.mono (opp_any k w) ?_
  rintro e w' ⟨rfl, hm⟩
  exact hK w' hm
theorem st_row1 {d x : Nat} {t : T} (hN : ∀ x, W.heap.size ≤ x → P0 x) (hd : o.dst = some d) (ho : o.op = .buildSlice 22 1 #[(0, .tmp x)]) (hx : TSlot plan P0 nb rb A0 W o x t) : NStep plan P0 nb rb A0 W o (.row d [t]) := fun a w hE K Q hK => by
  obtain ⟨v, h1, h2⟩ := hx a w hE
  obtain ⟨d0, d1, d2, m, rfl, h3, h4⟩ := id h2
  exact op_bs1 hd ho h1 h3.cell3 (hK _ _ (Mv.alloc _ _ _) ⟨⟨_, _, _, rfl⟩, fun k hk => own_one hk (hN _ hE.mv.size) h2⟩)
theorem st_row2 {d x y : Nat} {t u : T} (hN : ∀ x, W.heap.size ≤ x → P0 x) (hd : o.dst = some d) (ho : o.op = .buildSlice 22 2 #[(0, .tmp x), (1, .tmp y)]) (hx : TSlot plan P0 nb rb A0 W o x t) (hy : TSlot plan P0 nb rb A0 W o y u) : NStep plan P0 nb rb A0 W o (.row d [t, u]) := fun a w hE K Q hK => by
  obtain ⟨v, h1, h2⟩ := hx a w hE
  obtain ⟨d0, d1, d2, m, rfl, h3, h4⟩ := id h2
  obtain ⟨v', g1, g2⟩ := hy a w hE
  obtain ⟨e0, e1, e2, m', rfl, g3, g4⟩ := id g2
  exact op_bs2 hd ho h1 g1 h3.cell3 g3.cell3 (hK _ _ (Mv.alloc _ _ _) ⟨⟨_, _, _, rfl⟩, fun k hk => own_two hk (hN _ hE.mv.size) h2 g2⟩)
theorem st_part {d s : Nat} {X Y : Operand} {k : Int} {l : List T} (hk : -9223372036854775808 ≤ k ∧ k ≤ 9223372036854775807) (hP : ∀ x, P0 x → x ≠ nb ∧ x ≠ rb) (hd : o.dst = some d) (ho : o.op = .call { callee := .value (.func 55), args := #[.tmp s, X, Y], argTypes := #[102, 3, 22] }) (hs : Slot plan P0 nb rb A0 W o s (.pointer (some ⟨nb, 0, none⟩))) (hX : Opnd plan P0 nb rb A0 W o X (.int .i64 k)) (hY : LOpnd plan P0 nb rb A0 W o Y l) :
    NStep plan P0 nb rb A0 W o (.tree d (.mk k [] l) 1) := fun a w hE m hn K Q hK hX' => by
  have he := hs.opnd a w hE
  have hx := hX a w hE
  have hy := hY a w hE
  obtain ⟨⟨ao, n, c, hv⟩, hl⟩ := hy
  rw [hv] at hl
  unfold Oper.wp execOp
  simp only [ho, hd]
  simp only [resolve, List.map_toArray, List.map_cons, List.map_nil, he, hx, hv]
  go_simp
  refine Calls.mono (part_any' w nb m hn k ao n c) ?_
  rintro e w' ⟨hm, ⟨h1, h2, v, rfl, rfl⟩ | ⟨h1, rfl⟩⟩
  · exact hK h1 w' _ hm h2 ((hl k hk).mv hm (fun x hx _ e => (hP x hx).1 e))
  · exact hX' h1 w' hm
theorem st_call {F : FuncId} {d s p : Nat} {v2 : Value} {ty : Array TypeId} {t : T} {c : Nat} (eF : ∀ args w, (callFunc F args).run Tryd.prog w = .ok (.enter F args) w) (hN : ∀ x, W.heap.size ≤ x → P0 x) (hd : o.dst = some d) (ho : o.op = .call { callee := .value (.func F), args := #[.tmp s, .tmp p], argTypes := ty }) (hs : Slot plan P0 nb rb A0 W o s (.pointer (some ⟨nb, 0, none⟩))) (hp : Slot plan P0 nb rb A0 W o p v2)
    (hC : ∀ w m, Mv (fun x => x = nb ∨ x = rb) W w → NrIs w nb m → Calls Tryd.prog F #[.pointer (some ⟨nb, 0, none⟩), v2] w (NPost w nb m c (fun v w' => OwnT w.heap.size w' v t))) :
    NStep plan P0 nb rb A0 W o (.tree d t c) := fun a w hE m hn K Q hK hX' => by
  have he := hs.opnd a w hE
  have hx := hp.opnd a w hE
  unfold Oper.wp execOp
  simp only [ho, hd]
  simp only [resolve, List.map_toArray, List.map_cons, List.map_nil, he, hx]
  simp [go_sem, invoke, eF]
  refine Calls.mono (hC w m hE.mv hn) ?_
  rintro e w' ⟨hm, ⟨h1, h2, v, rfl, h3⟩ | ⟨h1, rfl⟩⟩
  · simp only [hd]
    exact hK h1 w' _ hm h2 (h3.mono (fun x hx => hN x (Nat.le_trans hE.mv.size hx)))
  · exact hX' h1 w' hm
theorem st_store {q x : Nat} {t : T} (hP : ∀ x, P0 x → x ≠ nb ∧ x ≠ rb) (hd : o.dst = none) (ho : o.op = .store 24 (.tmp q) (.tmp x)) (hq : Slot plan P0 nb rb A0 W o q (.pointer (some ⟨rb, 0, none⟩))) (hx : TSlot plan P0 nb rb A0 W o x t) : NStep plan P0 nb rb A0 W o (.store t) := fun a w hE ⟨e0, e1, e2, hb⟩ K Q hK => by
  obtain ⟨v, h1, h2⟩ := hx a w hE
  obtain ⟨d0, d1, d2, m, rfl, h3, h4⟩ := id h2
  have h5 := h3.cell3
  have hq' := hq a w hE
  obtain ⟨c0, c1, c2, f0, f1, f2⟩ := three hb.1
  have h6 := set3 hb.1 d0 d1 d2
  have hK' := hK _ d0 d1 d2 h6.mv ⟨h6.blk, h5⟩ h2
  obtain ⟨k, s', ao, l, c, rfl, rfl, rfl⟩ := h5
  unfold Oper.wp execOp
  simp only [ho, hd]
  go_simp
  exact hK'

end

end Go.Proofs.YtidihaecgmbhpabDoor
