/-
  VRange, VParts0.
-/
import Derived.RangeFuncBound
import Derived.RangeFuncCalls
import Derived.RangeFuncLeaves
import Derived.RangeFuncNested
import Derived.Test.YtidihaecgmbhpabDoorM11
/-
  'for x := range f': a law for iterators that keep cells of their own between two rounds. Laws on the model; nothing of the program's text.
-/
set_option linter.unusedSimpArgs false
set_option linter.unusedVariables false
namespace Go.Proofs.YtidihaecgmbhpabDoor
open Go.RowKit Q

/-- What belongs to the books of loops. -/
def bookO : Obj → Bool
  | .loop _ => true
  | .deferred _ => true
  | _ => false

/-- The books lie as they lay. -/
structure Books (W W' : World) : Prop where
  same : ∀ (k : Nat) (o : Obj), W.heap[k]? = some o → bookO o = true → W'.heap[k]? = some o
theorem Books.of_nu {W W' : World} (h : Nu W W') : Books W W' := ⟨fun k o hk _ => h.heap hk id⟩
theorem Books.trans {A B C : World} (h : Books A B) (k : Books B C) : Books A C := ⟨fun j o hj hb => k.same j o (h.same j o hj hb) hb⟩

/-- .. those from an index on. -/
def BooksFrom (H : Nat) (W W' : World) : Prop := ∀ (k : Nat) (o : Obj), H ≤ k → W.heap[k]? = some o → bookO o = true → W'.heap[k]? = some o
theorem Books.from {W W' : World} (h : Books W W') (H : Nat) : BooksFrom H W W' := fun k o _ h1 h2 => h.same k o h1 h2
theorem BooksFrom.trans {H : Nat} {A B C : World} (h : BooksFrom H A B) (k : BooksFrom H B C) : BooksFrom H A C := fun j o h1 h2 h3 => k j o h1 (h j o h1 h2 h3) h3
theorem BooksFrom.up {H H' : Nat} {A B : World} (h : BooksFrom H A B) (hH : H ≤ H') : BooksFrom H' A B := fun j o h1 h2 h3 => h j o (Nat.le_trans hH h1) h2 h3
theorem BooksFrom.put {H : Nat} (W : World) (l : Nat) (o : Obj) (h : l < H) : BooksFrom H W (W.putObj l o) := fun j o' h1 h2 _ => (World.putObj_heap_other (by omega)).trans h2

theorem mv_putObj (W : World) (l : Nat) (o : Obj) : Mv (· = l) W (W.putObj l o) :=
  ⟨rfl, rfl, rfl, by simp, fun k _ hn => World.putObj_heap_other hn⟩

/-- What is known stays so where the iterator turns what is its own. -/
def Stays {β : Type} (B : Nat) (It : World → Nat → Prop) (J : β → World → Prop) : Prop := ∀ s A A', J s A → Mv (fun x => B ≤ x ∧ It A x) A A' → J s A'

/-- An iterator's contract: It: blocks that it turns; Kp: what a round must keep for it. -/
def SeqI {α : Type} (n : Nat) (gf : FuncId) (lb : Array Value) (encs : α → Array Value) (It : World → Nat → Prop) (Kp : Nat → World → World → Prop) (S Sp : List α → Prop) (N : Nat) (w : World) : Prop :=
  ∀ (l : Nat) (J Jx : List α → World → Prop) (W : World), Nu w W → Stays W.heap.size It J → Stays W.heap.size It Jx →
    (∀ pre x W1, J pre W1 → pre.length < N → YieldAt Fence.wide (n - 1) Tryd.prog l (encs x) W1 fun e W' =>
      (e = .returned (.bool true) ∧ J (pre ++ [x]) W' ∧ Kp W.heap.size W1 W') ∨ (e = .returned (.bool false) ∧ Jx (pre ++ [x]) W' ∧ BooksFrom W.heap.size W1 W')) →
    J [] W →
    CallsIn Fence.wide n Tryd.prog gf (#[.func (.yield l) #[] #[]] ++ lb) W fun e W' => (∃ v, e = .returned v) ∧ ((∃ xs, S xs ∧ J xs W') ∨ (∃ pre, Sp pre ∧ Jx pre W'))

/-- How a round may be left. -/
def leftI {α : Type} (H : Nat) (Kp : World → World → Prop) (I : List α → World → Prop) (Ix : Code → List α → World → Prop) (xs : List α) (W : World) : Exit → Act → World → Prop
  | .normal, _, W' => BooksFrom H W W' ∧ Kp W W' ∧ I xs W'
  | .ret, _, W' => BooksFrom H W W' ∧ Ix .ret xs W'
  | .exit id, _, W' => BooksFrom H W W' ∧ Ix (.exit id) xs W'
  | .goto t, _, W' => BooksFrom H W W' ∧ Ix (.goto t) xs W'
  | .panic _, _, _ => False
  | .outgrown, _, _ => False

/-- What is known of a world stays so where new blocks come and a loop's record, or an iterator's own, turns. -/
def Abides {β : Type} (B : Nat) (It : World → Nat → Prop) (I : β → World → Prop) : Prop := ∀ s A A', I s A → Mv (fun x => B ≤ x ∧ (It A x ∨ ∃ o, A.heap[x]? = some o ∧ bookO o = true)) A A' → I s A'

theorem Abides.put {β : Type} {B : Nat} {It : World → Nat → Prop} {I : β → World → Prop} (h : Abides B It I) {s : β} {W : World} {l : Nat} {r r' : Loop} (hi : I s W) (hl : W.heap[l]? = some (.loop r)) (hB : B ≤ l) : I s (W.putObj l (.loop r')) :=
  h s W _ hi ((mv_putObj W l _).mono (fun x hx => .inl ⟨by omega, .inr ⟨.loop r, by rw [hx]; exact hl, rfl⟩⟩))
theorem Abides.nu {β : Type} {B : Nat} {It : World → Nat → Prop} {I : β → World → Prop} (h : Abides B It I) {s : β} {W W' : World} (hi : I s W) (hm : Nu W W') : I s W' := h s W W' hi (hm.mono (fun _ h => h.elim))

theorem range_any {α : Type} {n : Nat} {g : Operand} {ps : Array Tmp} {assign body : Code} {Q : Exit → Act → World → Prop} {a : Act} {w : World} {gf : Nat} {lb : Array Value}
    (hg : a.eval g = .func (.func gf) #[] lb) (eg : ∀ args w, (callFunc gf args).run Tryd.prog w = .ok (.enter gf args) w)
    {encs : α → Array Value} {It : World → Nat → Prop} {Kp : Nat → World → World → Prop} {S Sp : List α → Prop} {N : Nat} (hseq : SeqI (n - 1) gf lb encs It Kp S Sp N w)
    (hKt : ∀ (H : Nat) (A B C : World), Kp H A B → Kp H B C → Kp H A C) (hKb : ∀ (H : Nat) (W : World) (l : Nat) (r r' : Loop), l < H → W.heap[l]? = some (.loop r) → Kp H W (W.putObj l (.loop r'))) (hps : ∀ x, (encs x).size = ps.size)
    (I : List α → World → Prop) (Ix : Code → List α → World → Prop) (hI : Abides w.heap.size It I) (hIx : ∀ c, Abides w.heap.size It (Ix c)) (h0 : I [] w) (a₁ : α → Act)
    (hassign : ∀ (l : Nat) (x : α) (W : World) (K : Act → World → Prop), K (a₁ x) W →
      assign.wpIn (Fence.wide.inRound l) (n - 1 - 1) Tryd.prog (Exit.then K (fun _ _ _ => False)) { tmps := (ps.zip (encs x)).foldl (fun t (p, v) => t.setIfInBounds p v) a.tmps, defers := [] } W)
    (hbody : ∀ (l : Nat) (pre : List α) (x : α) (W : World), I pre W → pre.length < N → body.wpIn (Fence.wide.inRound l) (n - 1 - 1) Tryd.prog (leftI w.heap.size (Kp (w.heap.size + 1 + 1)) I Ix (pre ++ [x]) W) (a₁ x) W)
    (hdone : ∀ (D : Nat) (xs : List α) (W : World), w.heap.size ≤ D → S xs → I xs W → W.heap[D]? = some (.deferred (some [])) → Q .normal { a with defers := { target := .collected D, args := #[] } :: a.defers } W)
    (hstop : ∀ (D : Nat) (c : Code) (pre : List α) (W : World), w.heap.size ≤ D → Sp pre → Ix c pre W → W.heap[D]? = some (.deferred (some [])) → c.wpIn Fence.wide n Tryd.prog Q { a with defers := { target := .collected D, args := #[] } :: a.defers } W) :
    (Code.rangeFunc g ps assign body).wpIn Fence.wide n Tryd.prog Q a w := by
  refine wpIn_rangeFunc fun fn hfn => ?_
  -- the loop's record, by its state and what is pending
  obtain ⟨rec, hrec⟩ : ∃ rec : LoopState → Option Code → Loop, ∀ st pe, rec st pe = { state := st, pending := pe, fn, tmps := a.tmps, params := ps, assign, body, defers := w.heap.size } := ⟨fun st pe => _, fun _ _ => rfl⟩
  obtain ⟨W1, hW1⟩ : ∃ W1, (w.alloc (.deferred (some []))).alloc (.loop (rec .ready none)) = W1 := ⟨_, rfl⟩
  have hent : (Instr.enterLoop fn a.tmps ps assign body Fence.wide.round).run Tryd.prog w = .ok (w.heap.size + 1, [{ target := .collected w.heap.size, args := #[] }]) W1 := by
    rw [← hW1, hrec]
    exact run_enterLoop_outer _ _ _ _ _
  have hsz : W1.heap.size = w.heap.size + 1 + 1 := by rw [← hW1]; simp
  have hM1 : Nu w W1 := by rw [← hW1]; exact mv0 (Mv.alloc _ _ _) (Mv.alloc _ _ _)
  have hD1 : W1.heap[w.heap.size]? = some (.deferred (some [])) := by
    rw [← hW1]
    exact (Mv.alloc (fun _ => False) _ _).heap (heap_alloc_new w _) id
  have hL1 : W1.heap[w.heap.size + 1]? = some (.loop (rec .ready none)) := by
    have := heap_alloc_new (w.alloc (.deferred (some []))) (.loop (rec .ready none))
    rw [hW1, show (w.alloc (.deferred (some []))).heap.size = w.heap.size + 1 by simp] at this
    exact this
  refine ⟨w.heap.size + 1, [{ target := .collected w.heap.size, args := #[] }], W1, { target := .fn (.func gf) lb, args := #[.func (.yield (w.heap.size + 1)) #[] #[]] }, W1, gf, #[.func (.yield (w.heap.size + 1)) #[] #[]] ++ lb, W1, hent, ?_, ?_, ?_, (fun h => by simp [Fence.wide] at h), ?_⟩
  · simp only [resolve, hg]
    simp [go_sem]
  · exact fun _ _ => trivial
  · simp [invoke, go_sem, eg]
  · -- what is known between two rounds: the caller's, and the two books
    have hst : ∀ {s : List α} {A A' : World}, I s A → Mv (fun x => W1.heap.size ≤ x ∧ It A x) A A' → I s A' := fun h hm => hI _ _ _ h (hm.mono (fun x hx => .inl ⟨by omega, .inl hx.2⟩))
    have key := hseq (w.heap.size + 1)
      (fun pre W => I pre W ∧ W.heap[w.heap.size + 1]? = some (.loop (rec .ready none)) ∧ W.heap[w.heap.size]? = some (.deferred (some [])))
      (fun pre W => ∃ c, Ix c pre W ∧ W.heap[w.heap.size + 1]? = some (.loop (rec .done (some c))) ∧ W.heap[w.heap.size]? = some (.deferred (some [])))
      W1 hM1
      (fun s A A' h hm => ⟨hst h.1 hm, hm.heap h.2.1 (by omega), hm.heap h.2.2 (by omega)⟩)
      (fun s A A' h hm => by
        obtain ⟨c, h1, h2, h3⟩ := h
        exact ⟨c, hIx c _ _ _ h1 (hm.mono (fun x hx => .inl ⟨by omega, .inl hx.2⟩)), hm.heap h2 (by omega), hm.heap h3 (by omega)⟩)
    refine (key ?_ ⟨hI.nu h0 hM1, hL1, hD1⟩).mono ?_
    · rintro pre x W ⟨hi, hl, hd⟩ hlen
      have hy := run_yield (P := Tryd.prog) (args := encs x) hl (by rw [hrec]; exact hps x)
      rw [hrec] at hy
      refine ⟨fn, _, assign, body, hy, roundIn_of_wpIn hfn (hassign _ x W _ ⟨_, run_beginRound hl (by rw [hrec]), ?_⟩)⟩
      have hlt : w.heap.size + 1 < W.heap.size := (Array.getElem?_eq_some_iff.1 hl).1
      have hl2 : (W.putObj (w.heap.size + 1) (.loop { rec .ready none with state := .busy })).heap[w.heap.size + 1]? = some (.loop { rec .ready none with state := .busy }) := World.putObj_heap_same hlt
      have hd2 : (W.putObj (w.heap.size + 1) (.loop { rec .ready none with state := .busy })).heap[w.heap.size]? = some (.deferred (some [])) := (World.putObj_heap_other (by omega)).trans hd
      have hk2 := hKb (w.heap.size + 1 + 1) W (w.heap.size + 1) _ { rec .ready none with state := .busy } (by omega) hl
      have hbk2 : BooksFrom (w.heap.size + 1 + 1) W (W.putObj (w.heap.size + 1) (.loop { rec .ready none with state := .busy })) := BooksFrom.put _ _ _ (by omega)
      have hi2 := hI.put (r' := { rec .ready none with state := .busy }) hi hl (by omega)
      generalize W.putObj (w.heap.size + 1) (.loop { rec .ready none with state := .busy }) = W2 at hl2 hd2 hk2 hi2 hbk2 ⊢
      refine wpIn_mono (hbody _ pre x W2 hi2 hlen) ?_
      -- the round's end
      have fin : ∀ (jump : Option Code) (W3 : World), BooksFrom w.heap.size W2 W3 → ∃ W4, (Instr.endRound (w.heap.size + 1) jump).run Tryd.prog W3 = .ok (.bool jump.isNone) W4 ∧ W4 = W3.putObj (w.heap.size + 1) (.loop (rec (if jump.isNone then .ready else .done) jump)) ∧
          W3.heap[w.heap.size + 1]? = some (.loop { rec .ready none with state := .busy }) ∧ W4.heap[w.heap.size + 1]? = some (.loop (rec (if jump.isNone then .ready else .done) jump)) ∧ W4.heap[w.heap.size]? = some (.deferred (some [])) := fun jump W3 hb => by
        have hl3 := hb _ _ (by omega) hl2 rfl
        have hd3 := hb _ _ (by omega) hd2 rfl
        have hr := run_endRound (P := Tryd.prog) jump hl3
        refine ⟨_, ?_, rfl, hl3, World.putObj_heap_same (Array.getElem?_eq_some_iff.1 hl3).1, (World.putObj_heap_other (by omega)).trans hd3⟩
        rw [hr, hrec, hrec]
      intro e a3 W3 hp
      cases e with
      | normal =>
        obtain ⟨hb, hk, hi3⟩ := hp
        obtain ⟨W4, h1, rfl, h3, h4, h5⟩ := fin none W3 hb
        exact ⟨_, _, h1, .inl ⟨rfl, ⟨hI.put hi3 h3 (by omega), h4, h5⟩, by rw [hsz]; exact hKt _ _ _ _ (hKt _ _ _ _ hk2 hk) (hKb _ _ _ _ _ (by omega) h3)⟩⟩
      | ret =>
        obtain ⟨hb, hi3⟩ := hp
        obtain ⟨W4, h1, rfl, h3, h4, h5⟩ := fin (some .ret) W3 hb
        exact ⟨_, _, h1, .inr ⟨rfl, ⟨_, (hIx _).put hi3 h3 (by omega), h4, h5⟩, by rw [hsz]; exact (hbk2.trans (hb.up (by omega))).trans (BooksFrom.put _ _ _ (by omega))⟩⟩
      | exit id =>
        obtain ⟨hb, hi3⟩ := hp
        obtain ⟨W4, h1, rfl, h3, h4, h5⟩ := fin (some (.exit id)) W3 hb
        exact ⟨_, _, h1, .inr ⟨rfl, ⟨_, (hIx _).put hi3 h3 (by omega), h4, h5⟩, by rw [hsz]; exact (hbk2.trans (hb.up (by omega))).trans (BooksFrom.put _ _ _ (by omega))⟩⟩
      | goto t =>
        obtain ⟨hb, hi3⟩ := hp
        obtain ⟨W4, h1, rfl, h3, h4, h5⟩ := fin (some (.goto t)) W3 hb
        exact ⟨_, _, h1, .inr ⟨rfl, ⟨_, (hIx _).put hi3 h3 (by omega), h4, h5⟩, by rw [hsz]; exact (hbk2.trans (hb.up (by omega))).trans (BooksFrom.put _ _ _ (by omega))⟩⟩
      | panic ch => exact hp.elim
      | outgrown => exact hp.elim
    · rintro e W2 ⟨⟨v, rfl⟩, (⟨xs, hS, hi, hl, hd⟩ | ⟨pre, hSp, c, hi, hl, hd⟩)⟩
      · have hr := run_endLoop (P := Tryd.prog) hl (by rw [hrec]; simp)
        refine ⟨none, _, by rw [hr, hrec], hdone _ xs _ (Nat.le_refl _) hS (hI.put hi hl (by omega)) ((World.putObj_heap_other (by omega)).trans hd)⟩
      · have hr := run_endLoop (P := Tryd.prog) hl (by rw [hrec]; simp)
        refine ⟨some c, _, by rw [hr, hrec], hstop _ c pre _ (Nat.le_refl _) hSp ((hIx c).put hi hl (by omega)) ((World.putObj_heap_other (by omega)).trans hd)⟩

end Go.Proofs.YtidihaecgmbhpabDoor
/-
  A tree's parts, row by row: what is kept between two rounds; laws. No walk.
-/
set_option linter.unusedSimpArgs false
set_option linter.unusedVariables false
namespace Go.Proofs.YtidihaecgmbhpabDoor
open Go.RowKit Q

/-- What the iterator turns: its rows, its list, its set. -/
def itO : Obj → Bool
  | .map _ _ => true
  | .cells _ t _ => t == 82 || t == 22
  | _ => false
def ItP (A : World) (y : Nat) : Prop := ∃ o, A.heap[y]? = some o ∧ itO o = true

/-- The blocks that the iterator reads: the variable's, the formula's, its rows'. -/
def TB (cb pb : Nat) (root : A) (y : Nat) : Prop := y = cb ∨ y = pb ∨ ∃ a ∈ root.subs, a.kids ≠ [] ∧ y = a.ent.b

/-- What a round must keep for it. -/
structure KpP (cb pb : Nat) (root : A) (W W' : World) : Prop where
  own : ∀ (y : Nat) (o : Obj), W.heap[y]? = some o → itO o = true → W'.heap[y]? = some o
  tree : ∀ (y : Nat), TB cb pb root y → ∀ o, W.heap[y]? = some o → bookO o = false → W'.heap[y]? = some o
  size : W.heap.size ≤ W'.heap.size

theorem KpP.trans {cb pb : Nat} {root : A} (A B C : World) (h : KpP cb pb root A B) (k : KpP cb pb root B C) : KpP cb pb root A C :=
  ⟨fun y o h1 h2 => k.own y o (h.own y o h1 h2) h2, fun y hy o h1 h2 => k.tree y hy o (h.tree y hy o h1 h2) h2, Nat.le_trans h.size k.size⟩
theorem KpP.put {cb pb : Nat} {root : A} (W : World) (l : Nat) (r r' : Loop) (hl : W.heap[l]? = some (.loop r)) : KpP cb pb root W (W.putObj l (.loop r')) := by
  have key : ∀ (y : Nat) (o : Obj), W.heap[y]? = some o → (∀ q, o ≠ .loop q) → (W.putObj l (.loop r')).heap[y]? = some o := fun y o h1 h2 => by
    have : y ≠ l := fun e => by rw [e, hl] at h1; cases h1; exact h2 r rfl
    rw [World.putObj_heap_other this]
    exact h1
  refine ⟨fun y o h1 h2 => key y o h1 (fun q e => by rw [e] at h2; cases h2), fun y _ o h1 h2 => key y o h1 (fun q e => by rw [e] at h2; cases h2), by simp⟩
theorem KpP.nu {cb pb : Nat} {root : A} {W W' : World} (h : Nu W W') : KpP cb pb root W W' := ⟨fun y o h1 _ => h.heap h1 id, fun y _ o h1 _ => h.heap h1 id, h.size⟩

/-- A part and its place. -/
def PartAt (w : World) (B pb : Nat) (root : A) (x : Nat × Nat × A) : Prop := x.2.2 ∈ root.subs ∧ (x.1 = pb ∨ ∃ a ∈ root.subs, a.kids ≠ [] ∧ x.1 = a.ent.b) ∧
  ∃ c0 c1 c2, w.cell? ⟨x.1, x.2.1, none⟩ = some c0 ∧ w.cell? ⟨x.1, x.2.1 + 1, none⟩ = some c1 ∧ w.cell? ⟨x.1, x.2.1 + 2, none⟩ = some c2 ∧ AIn w B c0 c1 c2 x.2.2
abbrev PE (w : World) (B pb : Nat) (root : A) := { x : Nat × Nat × A // PartAt w B pb root x }
def PE.a {w : World} {B pb : Nat} {root : A} (x : PE w B pb root) : A := x.1.2.2

/-- The tree's blocks lie as they lay. -/
def TSame (cb pb : Nat) (root : A) (w W : World) : Prop := ∀ y, TB cb pb root y → ∀ o, w.heap[y]? = some o → bookO o = false → W.heap[y]? = some o

theorem cell_same {w W : World} {b i : Nat} {v : Value} (h : ∀ o, w.heap[b]? = some o → bookO o = false → W.heap[b]? = some o) (hc : w.cell? ⟨b, i, none⟩ = some v) : W.cell? ⟨b, i, none⟩ = some v := by
  have hlt := World.block_lt_of_cell? w _ hc
  obtain ⟨o, ho⟩ : ∃ o, w.heap[b]? = some o := ⟨_, Array.getElem?_eq_getElem hlt⟩
  have hb : bookO o = false := by
    unfold World.cell? at hc
    simp only [ho] at hc
    cases o <;> first | rfl | (simp at hc)
  have := h o ho hb
  unfold World.cell? at hc ⊢
  simp only at hc ⊢
  rw [this]
  rw [ho] at hc
  exact hc

theorem AIn.same {w W : World} {B B' : Nat} (hB : B ≤ B') : ∀ {a : A} {c0 c1 c2 : Value}, AIn w B c0 c1 c2 a → (∀ x ∈ a.subs, x.kids ≠ [] → ∀ o, w.heap[x.ent.b]? = some o → bookO o = false → W.heap[x.ent.b]? = some o) → AIn W B' c0 c1 c2 a := by
  intro a
  refine A.ind (P := fun a => ∀ {c0 c1 c2 : Value}, AIn w B c0 c1 c2 a → (∀ x ∈ a.subs, x.kids ≠ [] → ∀ o, w.heap[x.ent.b]? = some o → bookO o = false → W.heap[x.ent.b]? = some o) → AIn W B' c0 c1 c2 a) (fun k n b o c l ih c0 c1 c2 h hs => ?_) a
  cases h with
  | leaf _ _ ao cap hk hn => exact .leaf k n ao cap hk hn
  | node _ _ _ _ _ _ C hk hn hl hpos h0 hlt hb hr =>
    have hself := hs (.mk k n b o c l) (subs_self _) hpos
    have hblk : ∀ q, w.heap[b]? = some q → bookO q = false → W.heap[b]? = some q := hself
    refine .node k n l b o c C hk hn hl hpos (fun i hi => ⟨cell_same hblk (h0 i hi).1, cell_same hblk (h0 i hi).2.1, cell_same hblk (h0 i hi).2.2⟩) ?_ (by omega) (fun i a ha => ?_)
    · obtain ⟨cs, ty, hc⟩ := hlt
      exact ⟨cs, ty, hblk _ hc rfl⟩
    · have hm := List.mem_of_getElem? ha
      refine ih a hm (hr i a ha) (fun x hx => hs x ?_)
      simp only [A.subs, List.mem_cons]
      right
      rw [subss_flat]
      exact List.mem_flatMap.2 ⟨a, hm, hx⟩

theorem subs_trans {r a x : A} (h : a ∈ r.subs) (hx : x ∈ a.subs) : x ∈ r.subs := by
  revert r
  intro r
  refine A.ind (P := fun r => a ∈ r.subs → x ∈ r.subs) (fun k n b o c l ih h => ?_) r
  simp only [A.subs, List.mem_cons] at h ⊢
  rcases h with rfl | h
  · simp only [A.subs, List.mem_cons] at hx
    exact hx
  · right
    rw [subss_flat] at h ⊢
    obtain ⟨y, h1, h2⟩ := List.mem_flatMap.1 h
    exact List.mem_flatMap.2 ⟨y, h1, ih y h1 h2⟩

/-- What holds of the whole and, with a part, of its kids, holds of all parts. -/
theorem subs_all {r : A} {P : A → Prop} (h0 : P r) (h1 : ∀ a ∈ r.subs, P a → ∀ k ∈ a.kids, P k) : ∀ a ∈ r.subs, P a := by
  have key : ∀ x : A, x ∈ r.subs → P x → ∀ a ∈ x.subs, P a := by
    refine A.ind fun k n b o c l ih hx hp a ha => ?_
    simp only [A.subs, List.mem_cons] at ha
    rcases ha with rfl | ha
    · exact hp
    · rw [subss_flat] at ha
      obtain ⟨y, hy1, hy2⟩ := List.mem_flatMap.1 ha
      exact ih y hy1 (subs_kid hx hy1) (h1 _ hx hp y hy1) a hy2
  exact key r (subs_self r) h0

/-- Rows of the base's world in a later one. -/
theorem row_same {cb pb : Nat} {root : A} {w W : World} {B B' : Nat} {c0 c1 c2 : Value} (hr : AIn w B c0 c1 c2 root) (hs : TSame cb pb root w W) (hB : B ≤ B') {a : A} (ha : a ∈ root.subs) (hk : a.kids ≠ []) : ARow W B' a.ent.b a.ent.o a.kids := by
  have h := hr.subs a ha hk
  have hblk : ∀ q, w.heap[a.ent.b]? = some q → bookO q = false → W.heap[a.ent.b]? = some q := hs _ (.inr (.inr ⟨a, ha, hk, rfl⟩))
  refine ⟨hk, h.len, ?_, by have := h.lt; omega, fun i x hx => ?_⟩
  · obtain ⟨cs, ty, hc⟩ := h.cln
    exact ⟨cs, ty, hblk _ hc rfl⟩
  · obtain ⟨d0, d1, d2, e0, e1, e2, e3⟩ := h.at' i x hx
    have hxs : x ∈ root.subs := subs_kid ha (List.mem_of_getElem? hx)
    exact ⟨d0, d1, d2, cell_same hblk e0, cell_same hblk e1, cell_same hblk e2, e3.same hB (fun y hy hk' => hs _ (.inr (.inr ⟨y, subs_trans hxs hy, hk', rfl⟩)))⟩

/-- A kid's place. -/
theorem kid_part {w : World} {B pb : Nat} {c0 c1 c2 : Value} {root a x : A} (hr : AIn w B c0 c1 c2 root) (ha : a ∈ root.subs) {i : Nat} (hx : a.kids[i]? = some x) : PartAt w B pb root (a.ent.b, a.ent.o + i * 3, x) := by
  have hk : a.kids ≠ [] := fun e => by rw [e] at hx; simp at hx
  obtain ⟨d0, d1, d2, e0, e1, e2, e3⟩ := (hr.subs a ha hk).at' i x hx
  exact ⟨subs_kid ha (List.mem_of_getElem? hx), .inr ⟨a, ha, hk, rfl⟩, d0, d1, d2, e0, e1, e2, e3⟩

/-- Rows that are gone over, between two rounds: i rows are done. -/
structure PMid {w : World} {B : Nat} {root : A} (cb pb : Nat) (J : List (PE w B pb root) → World → Prop) (H : Nat) (wr : World) (g m : Nat) (v : Value) (L : List E) (pre : List (PE w B pb root)) (i : Nat) : Prop where
  rows : RowsIs wr H g m v L
  same : TSame cb pb root w wr
  j : J pre wr
  nd : (L.map E.key).Nodup
  org : ∀ e ∈ L, ∃ a ∈ root.subs, a.kids ≠ [] ∧ e = a.ent
  rt : ∃ x ∈ pre, PE.a x = root
  rc : root.kids ≠ [] → Cov L root.kids
  done : ∀ j, j < i → ∀ e, L[j]? = some e → ∀ a ∈ e.l, (∃ x ∈ pre, PE.a x = a) ∧ (a.kids ≠ [] → Cov L a.kids)
  len : pre.length ≤ 1 + i * 1000001
  hH : w.heap.size ≤ H

theorem PMid.all {w : World} {B : Nat} {root : A} {cb pb : Nat} {J : List (PE w B pb root) → World → Prop} {H : Nat} {wr : World} {g m : Nat} {v : Value} {L : List E} {pre : List (PE w B pb root)} {i : Nat} (h : PMid cb pb J H wr g m v L pre i) (hi : L.length ≤ i) : ∀ a ∈ root.subs, ∃ x ∈ pre, PE.a x = a := by
  have := subs_all (r := root) (P := fun a => (∃ x ∈ pre, PE.a x = a) ∧ (a.kids ≠ [] → Cov L a.kids)) ⟨h.rt, h.rc⟩ (fun a ha hp k hk => by
    have hne : a.kids ≠ [] := fun e => by rw [e] at hk; cases hk
    obtain ⟨e, he, hl⟩ := hp.2 hne
    obtain ⟨j, hj, rfl⟩ := List.getElem_of_mem he
    exact h.done j (by omega) _ (List.getElem?_eq_getElem hj) k (by rw [hl]; exact hk))
  exact fun a ha => (this a ha).1

theorem PMid.small {w : World} {B : Nat} {root : A} {cb pb : Nat} {J : List (PE w B pb root) → World → Prop} {H : Nat} {wr : World} {g m : Nat} {v : Value} {L : List E} {pre : List (PE w B pb root)} {i : Nat} (h : PMid cb pb J H wr g m v L pre i) (hs : root.t.size ≤ 1000000) : L.length ≤ 1000000 := by
  have := rows_le (U := root.subs) h.nd (fun e he => by
    obtain ⟨a, h1, h2, h3⟩ := h.org e he
    exact ⟨a, h1, h3⟩)
  rw [subs_len] at this
  omega

theorem RowsIs.it {w : World} {B g m : Nat} {v : Value} {L : List E} (h : RowsIs w B g m v L) {x : Nat} (hx : Fp g m v x) : ItP w x := by
  rcases hx with rfl | rfl | hx
  · exact ⟨_, h.blk, rfl⟩
  · obtain ⟨es, c, h1, _⟩ := h.set
    exact ⟨_, h1, rfl⟩
  · rcases h.row.2 with ⟨rfl, _⟩ | ⟨g', cap, cur, rfl, hb, hgg, _⟩
    · cases hx
    · obtain rfl : g' = x := by injection hx
      exact ⟨_, hgg, by simp [itO]⟩

theorem RowsIs.kp {cb pb : Nat} {root : A} {w W W' : World} {B H g m : Nat} {c0 c1 c2 : Value} {v : Value} {L : List E} (h : RowsIs W H g m v L) (hk : KpP cb pb root W W') (hr : AIn w B c0 c1 c2 root) (hs : TSame cb pb root w W') (hB : B ≤ H) (ho : ∀ e ∈ L, ∃ a ∈ root.subs, a.kids ≠ [] ∧ e = a.ent) : RowsIs W' H g m v L := by
  refine ⟨hk.own _ _ h.blk rfl, ?_, ?_, fun e he => ?_, h.hg, h.hm⟩
  · obtain ⟨es, c, h1, h2⟩ := h.set
    exact ⟨es, c, hk.own _ _ h1 rfl, h2⟩
  · refine ⟨h.row.1, ?_⟩
    rcases h.row.2 with h2 | ⟨g', cap, cur, h2, hb, hgg, rest⟩
    · exact .inl h2
    · exact .inr ⟨g', cap, cur, h2, hb, hk.own _ _ hgg (by simp [itO]), rest⟩
  · obtain ⟨a, h1, h2, rfl⟩ := ho e he
    have := row_same hr hs hB h1 h2
    rw [← ent_l] at this
    exact this

theorem TSame.kp {cb pb : Nat} {root : A} {w W W' : World} (h : TSame cb pb root w W) (hk : KpP cb pb root W W') : TSame cb pb root w W' := fun y hy o h1 h2 => hk.tree y hy o (h y hy o h1 h2) h2
theorem TSame.mv {cb pb : Nat} {root : A} {w W W' : World} {S : Nat → Prop} (h : TSame cb pb root w W) (hm : Mv S W W') (hS : ∀ x, S x → w.heap.size ≤ x) : TSame cb pb root w W' := fun y hy o h1 h2 => hm.heap (h y hy o h1 h2) (fun e => by have := hS y e; have := (Array.getElem?_eq_some_iff.1 h1).1; omega)

end Go.Proofs.YtidihaecgmbhpabDoor
