/-
  NRange, NCons.
-/
import Derived.RangeFuncBound
import Derived.RangeFuncCalls
import Derived.RangeFuncLeaves
import Derived.RangeFuncNested
import Derived.Test.YtcpgpiokjghcnaaM2
import Derived.Test.YtcpgpiokjghcnaaM8
/-
  'for m := range s.Next(state)': what an iterator over moves promises, and a law for the loop. Laws on the model; nothing of the program's text.
-/
set_option linter.unusedSimpArgs false
set_option linter.unusedVariables false
namespace Go.Proofs.Ytcpgpiokjghcnaa
open Go.RowKit

/-- What belongs to the books of loops; a truth value in a box of its own is told with them (an iterator's own 'ended'). -/
def bookO : Obj → Bool
  | .loop _ => true
  | .deferred _ => true
  | .cells _ t _ => t == 4
  | _ => false

theorem mv_putObj (W : World) (l : Nat) (o : Obj) : Mv (· = l) W (W.putObj l o) :=
  ⟨rfl, rfl, rfl, by simp, fun k _ hn => World.putObj_heap_other hn⟩

/-- The books of loops, from a block on. -/
def booksB (B : Nat) (A : World) (x : Nat) : Prop := B ≤ x ∧ ∃ o, A.heap[x]? = some o ∧ bookO o = true

/-- Rows of moves, and their boxes: an iterator may hold moves back, in memory of its own. -/
def ownO : Obj → Bool
  | .cells _ t _ => t == 44 || t == 37
  | _ => false

/-- What an iterator may turn, from a block on: the books, and rows of moves that its taker (O) doesn't own. -/
def turnB (B : Nat) (O : Nat → Prop) (A : World) (x : Nat) : Prop := B ≤ x ∧ ∃ o, A.heap[x]? = some o ∧ (bookO o = true ∨ (ownO o = true ∧ ¬ O x))
theorem booksB.turn {B B' : Nat} {O : Nat → Prop} {A : World} {x : Nat} (h : booksB B A x) (hB : B' ≤ B) : turnB B' O A x :=
  ⟨Nat.le_trans hB h.1, h.2.imp fun _ ho => ⟨ho.1, .inl ho.2⟩⟩

/-- An iterator over moves: it hands over the moves ms, in order, each in memory of its own; it turns nothing that was there when it was asked, nor what its caller owns (O). F: blocks that must stay as they are for it. -/
def SeqN (n : Nat) (gf : FuncId) (lb : Array Value) (F : Nat → Prop) (ms : List Mov) (w : World) : Prop :=
  ∀ (l : Nat) (J : List X → (Nat → Prop) → World → Prop) (Jx : List X → World → Prop) (W : World) (O₀ : Nat → Prop), KeepF F w W → (l < W.heap.size ∧ ¬ F l) →
    (∀ pre O A A', J pre O A → Nu A A' → J pre O A') → (∀ pre A A', Jx pre A → Nu A A' → Jx pre A') →
    ((∀ pre O A A', J pre O A → Mv (turnB W.heap.size O A) A A' → J pre O A') ∧ ∀ pre A A', Jx pre A → Mv (booksB W.heap.size A) A A' → Jx pre A') →
    (∀ pre O A, J pre O A → ∀ b, O b → b < A.heap.size ∧ ¬ F b) →
    (∀ pre x W1 O, J pre O W1 → W.heap.size ≤ W1.heap.size → ms[pre.length]? = some x.m → XOwn W1 W.heap.size x → (∀ b, x.blk b → ¬ O b) → YieldAt Fence.wide (n - 1) Try.prog l x.enc W1 fun e W' =>
      (e = .returned (.bool true) ∧ ∃ O', J (pre ++ [x]) O' W' ∧ (∀ b, O' b → O b ∨ x.blk b ∨ W1.heap.size ≤ b) ∧ Mv (fun b => O b ∨ x.blk b) W1 W') ∨ (e = .returned (.bool false) ∧ Jx (pre ++ [x]) W' ∧ Mv (fun b => O b ∨ x.blk b ∨ b = l) W1 W')) →
    J [] O₀ W →
    CallsIn Fence.wide n Try.prog gf (#[.func (.yield l) #[] #[]] ++ lb) W fun e W' => (∃ v, e = .returned v) ∧ ((∃ xs O, xs.map X.m = ms ∧ J xs O W') ∨ (∃ pre, Jx pre W'))

/-- How a round may be left. -/
def leftN (I : List X → (Nat → Prop) → World → Prop) (Ix : Code → List X → World → Prop) (pre : List X) (x : X) (O : Nat → Prop) (W : World) : Exit → Act → World → Prop
  | .normal, _, W' => ∃ O', I (pre ++ [x]) O' W' ∧ (∀ b, O' b → O b ∨ x.blk b ∨ W.heap.size ≤ b) ∧ Mv (fun b => O b ∨ x.blk b) W W'
  | .ret, _, W' => Mv (fun b => O b ∨ x.blk b) W W' ∧ Ix .ret (pre ++ [x]) W'
  | .exit id, _, W' => Mv (fun b => O b ∨ x.blk b) W W' ∧ Ix (.exit id) (pre ++ [x]) W'
  | .goto t, _, W' => Mv (fun b => O b ∨ x.blk b) W W' ∧ Ix (.goto t) (pre ++ [x]) W'
  | .panic _, _, _ => False
  | .outgrown, _, _ => False

/-- What is known stays so where new blocks come and the books of loops from B on turn. -/
def Abides {β : Type} (B : Nat) (I : β → World → Prop) : Prop := ∀ s A A', I s A → Mv (fun x => B ≤ x ∧ ∃ o, A.heap[x]? = some o ∧ bookO o = true) A A' → I s A'
theorem Abides.put {β : Type} {B : Nat} {I : β → World → Prop} (h : Abides B I) {s : β} {W : World} {l : Nat} {r r' : Loop} (hi : I s W) (hl : W.heap[l]? = some (.loop r)) (hB : B ≤ l) : I s (W.putObj l (.loop r')) :=
  h s W _ hi ((mv_putObj W l _).mono (fun x hx => .inl ⟨by omega, .loop r, by rw [hx]; exact hl, rfl⟩))
theorem Abides.nu {β : Type} {B : Nat} {I : β → World → Prop} (h : Abides B I) {s : β} {W W' : World} (hi : I s W) (hm : Nu W W') : I s W' := h s W W' hi (hm.mono (fun _ h => h.elim))

/-- The same, of what is known between rounds. -/
def AbidesO (B : Nat) (I : List X × (Nat → Prop) → World → Prop) : Prop := ∀ s A A', I s A → Mv (turnB B s.2 A) A A' → I s A'
theorem AbidesO.put {B : Nat} {I : List X × (Nat → Prop) → World → Prop} (h : AbidesO B I) {s : List X × (Nat → Prop)} {W : World} {l : Nat} {r r' : Loop} (hi : I s W) (hl : W.heap[l]? = some (.loop r)) (hB : B ≤ l) : I s (W.putObj l (.loop r')) :=
  h s W _ hi ((mv_putObj W l _).mono (fun x hx => .inl ⟨by omega, .loop r, by rw [hx]; exact hl, .inl rfl⟩))
theorem AbidesO.nu {B : Nat} {I : List X × (Nat → Prop) → World → Prop} (h : AbidesO B I) {s : List X × (Nat → Prop)} {W W' : World} (hi : I s W) (hm : Nu W W') : I s W' := h s W W' hi (hm.mono (fun _ h => h.elim))

theorem range_netD {n : Nat} {g : Operand} {ps : Array Tmp} {assign body : Code} {Q : Exit → Act → World → Prop} {a : Act} {w : World} {gf : Nat} {lb : Array Value}
    (hg : a.eval g = .func (.func gf) #[] lb) (eg : ∀ args w, (callFunc gf args).run Try.prog w = .ok (.enter gf args) w)
    {F : Nat → Prop} {ms : List Mov} (hseq : SeqN (n - 1) gf lb F ms w) (hF : ∀ b, F b → b < w.heap.size) (hps : 1 = ps.size)
    (I : List X × (Nat → Prop) → World → Prop) (Ix : Code → List X → World → Prop) (hI : AbidesO w.heap.size I) (hIx : ∀ c, Abides w.heap.size (Ix c)) (O₀ : Nat → Prop) (h0 : I ([], O₀) w)
    (hO : ∀ s A, I s A → ∀ b, s.2 b → b < A.heap.size ∧ ¬ F b ∧ (b < w.heap.size ∨ w.heap.size + 2 ≤ b)) (As : X × Act → World → Prop) (hAs : Abides w.heap.size As)
    (hassign : ∀ (l : Nat) (x : X) (W : World) (K : Act → World → Prop), w.heap.size + 2 ≤ W.heap.size → (∀ a₁ W₁, Nu W W₁ → As (x, a₁) W₁ → K a₁ W₁) →
      assign.wpIn (Fence.wide.inRound l) (n - 1 - 1) Try.prog (Exit.then K (fun _ _ _ => False)) { tmps := (ps.zip x.enc).foldl (fun t (p, v) => t.setIfInBounds p v) a.tmps, defers := [] } W)
    (hbody : ∀ (l : Nat) (pre : List X) (x : X) (O : Nat → Prop) (a₁ : Act) (W : World), I (pre, O) W → As (x, a₁) W → ms[pre.length]? = some x.m → w.heap.size + 2 ≤ W.heap.size → XOwn W (w.heap.size + 2) x → (∀ b, x.blk b → ¬ O b) →
      body.wpIn (Fence.wide.inRound l) (n - 1 - 1) Try.prog (leftN (fun p o => I (p, o)) Ix pre x O W) a₁ W)
    (hdone : ∀ (D : Nat) (xs : List X) (O : Nat → Prop) (W : World), D = w.heap.size → xs.map X.m = ms → I (xs, O) W → W.heap[D]? = some (.deferred (some [])) → Q .normal { a with defers := { target := .collected D, args := #[] } :: a.defers } W)
    (hstop : ∀ (D : Nat) (c : Code) (pre : List X) (W : World), D = w.heap.size → Ix c pre W → W.heap[D]? = some (.deferred (some [])) → c.wpIn Fence.wide n Try.prog Q { a with defers := { target := .collected D, args := #[] } :: a.defers } W) :
    (Code.rangeFunc g ps assign body).wpIn Fence.wide n Try.prog Q a w := by
  refine wpIn_rangeFunc fun fn hfn => ?_
  obtain ⟨rec, hrec⟩ : ∃ rec : LoopState → Option Code → Loop, ∀ st pe, rec st pe = { state := st, pending := pe, fn, tmps := a.tmps, params := ps, assign, body, defers := w.heap.size } := ⟨fun st pe => _, fun _ _ => rfl⟩
  obtain ⟨W1, hW1⟩ : ∃ W1, (w.alloc (.deferred (some []))).alloc (.loop (rec .ready none)) = W1 := ⟨_, rfl⟩
  have hent : (Instr.enterLoop fn a.tmps ps assign body Fence.wide.round).run Try.prog w = .ok (w.heap.size + 1, [{ target := .collected w.heap.size, args := #[] }]) W1 := by
    rw [← hW1, hrec]
    exact run_enterLoop_outer _ _ _ _ _
  have hsz : W1.heap.size = w.heap.size + 1 + 1 := by rw [← hW1]; simp
  have hM1 : Nu w W1 := by rw [← hW1]; exact mv0 (Mv.alloc _ _ _) (Mv.alloc _ _ _)
  have hD1 : W1.heap[w.heap.size]? = some (.deferred (some [])) := by
    rw [← hW1]
    exact (Mv.alloc (fun _ => False) _ _).heap (heap_alloc_new w _) id
  have hL1 : W1.heap[w.heap.size + 1]? = some (.loop (rec .ready none)) := by
    have := heap_alloc_new (w.alloc (.deferred (some []))) (.loop (rec .ready none))
    rw [hW1, show (w.alloc (.deferred (some []))).heap.size = w.heap.size + 1 by simp] at this
    exact this
  refine ⟨w.heap.size + 1, [{ target := .collected w.heap.size, args := #[] }], W1, { target := .fn (.func gf) lb, args := #[.func (.yield (w.heap.size + 1)) #[] #[]] }, W1, gf, #[.func (.yield (w.heap.size + 1)) #[] #[]] ++ lb, W1, hent, ?_, ?_, ?_, (fun h => by simp [Fence.wide] at h), ?_⟩
  · simp only [resolve, hg]
    simp [go_sem]
  · exact fun _ _ => trivial
  · simp [invoke, go_sem, eg]
  · have key := hseq (w.heap.size + 1)
      (fun pre O W => I (pre, O) W ∧ W.heap[w.heap.size + 1]? = some (.loop (rec .ready none)) ∧ W.heap[w.heap.size]? = some (.deferred (some [])))
      (fun pre W => ∃ c, Ix c pre W ∧ W.heap[w.heap.size + 1]? = some (.loop (rec .done (some c))) ∧ W.heap[w.heap.size]? = some (.deferred (some [])))
      W1 O₀ (hM1.keep (fun x hx => ⟨hF x hx, id⟩)) ⟨by omega, fun hf => by have := hF _ hf; omega⟩
      (fun s O A A' h hm => ⟨hI.nu h.1 hm, hm.heap h.2.1 id, hm.heap h.2.2 id⟩)
      (fun s A A' h hm => by
        obtain ⟨c, h1, h2, h3⟩ := h
        exact ⟨c, (hIx c).nu h1 hm, hm.heap h2 id, hm.heap h3 id⟩)
      ⟨fun s O A A' h hm => ⟨hI _ _ _ h.1 (hm.mono (fun x hx => .inl ⟨by have := hx.1; omega, hx.2⟩)), hm.heap h.2.1 (fun hx => by have := hx.1; omega), hm.heap h.2.2 (fun hx => by have := hx.1; omega)⟩, fun s A A' h hm => by
        obtain ⟨c, h1, h2, h3⟩ := h
        exact ⟨c, hIx c _ _ _ h1 (hm.mono (fun x hx => .inl ⟨by have := hx.1; omega, hx.2⟩)), hm.heap h2 (fun hx => by have := hx.1; omega), hm.heap h3 (fun hx => by have := hx.1; omega)⟩⟩
      (fun pre O A h b hb => ⟨(hO _ _ h.1 b hb).1, (hO _ _ h.1 b hb).2.1⟩)
    refine (key ?_ ⟨hI.nu h0 hM1, hL1, hD1⟩).mono ?_
    · rintro pre x W₀ O ⟨hi₀, hl₀, hd₀⟩ hge₀ hx hown₀ hno
      have hy := run_yield (P := Try.prog) (args := x.enc) hl₀ (by rw [hrec]; exact hps)
      rw [hrec] at hy
      refine ⟨fn, _, assign, body, hy, roundIn_of_wpIn hfn (hassign _ x W₀ _ (by omega) fun a₁ W hnu has => ?_)⟩
      have hi := hI.nu hi₀ hnu
      have hl := hnu.heap hl₀ id
      have hd := hnu.heap hd₀ id
      have hown := hown₀.mv (H' := W1.heap.size) hnu (fun _ _ => id) (Nat.le_refl _)
      have hge : W1.heap.size ≤ W.heap.size := Nat.le_trans hge₀ hnu.size
      refine ⟨_, run_beginRound hl (by rw [hrec]), ?_⟩
      have hlt : w.heap.size + 1 < W.heap.size := (Array.getElem?_eq_some_iff.1 hl).1
      have hbl : ∀ b, x.blk b → w.heap.size + 2 ≤ b := fun b hb => by have := (hown.ge hb).1; omega
      have hl2 : (W.putObj (w.heap.size + 1) (.loop { rec .ready none with state := .busy })).heap[w.heap.size + 1]? = some (.loop { rec .ready none with state := .busy }) := World.putObj_heap_same hlt
      have hd2 : (W.putObj (w.heap.size + 1) (.loop { rec .ready none with state := .busy })).heap[w.heap.size]? = some (.deferred (some [])) := (World.putObj_heap_other (by omega)).trans hd
      have hm2 := mv_putObj W (w.heap.size + 1) (.loop { rec .ready none with state := .busy })
      have hi2 := hI.put (r' := { rec .ready none with state := .busy }) hi hl (by omega)
      have ha2 := hAs.put (r' := { rec .ready none with state := .busy }) has hl (by omega)
      have ho2 := hown.mv (H' := w.heap.size + 2) hm2 (fun b hb e => by have := hbl b hb; omega) (by omega)
      generalize W.putObj (w.heap.size + 1) (.loop { rec .ready none with state := .busy }) = W2 at hl2 hd2 hi2 hm2 ho2 ha2 ⊢
      have hsz2 := hm2.size
      refine wpIn_mono (hbody _ pre x O a₁ W2 hi2 ha2 hx (by omega) ho2 hno) ?_
      have hnot : ∀ b, (O b ∨ x.blk b) → b ≠ w.heap.size ∧ b ≠ w.heap.size + 1 := fun b hb => by
        rcases hb with hb | hb
        · rcases (hO _ _ hi b hb).2.2 with h | h <;> exact ⟨by omega, by omega⟩
        · have := hbl b hb; exact ⟨by omega, by omega⟩
      have fin : ∀ (jump : Option Code) (W3 : World), Mv (fun b => O b ∨ x.blk b) W2 W3 → ∃ W4, (Instr.endRound (w.heap.size + 1) jump).run Try.prog W3 = .ok (.bool jump.isNone) W4 ∧ W4 = W3.putObj (w.heap.size + 1) (.loop (rec (if jump.isNone then .ready else .done) jump)) ∧
          W3.heap[w.heap.size + 1]? = some (.loop { rec .ready none with state := .busy }) ∧ W4.heap[w.heap.size + 1]? = some (.loop (rec (if jump.isNone then .ready else .done) jump)) ∧ W4.heap[w.heap.size]? = some (.deferred (some [])) := fun jump W3 hb => by
        have hl3 := hb.heap hl2 (fun h => (hnot _ h).2 rfl)
        have hd3 := hb.heap hd2 (fun h => (hnot _ h).1 rfl)
        have hr := run_endRound (P := Try.prog) jump hl3
        refine ⟨_, ?_, rfl, hl3, World.putObj_heap_same (Array.getElem?_eq_some_iff.1 hl3).1, (World.putObj_heap_other (by omega)).trans hd3⟩
        rw [hr, hrec, hrec]
      have out : ∀ {W3 : World} (r : Loop), Mv (fun b => O b ∨ x.blk b) W2 W3 → Mv (fun b => O b ∨ x.blk b ∨ b = w.heap.size + 1) W₀ (W3.putObj (w.heap.size + 1) (.loop r)) := fun r hb =>
        (((hnu.mono (fun _ h => h.elim)).trans hm2 (fun b hb => .inl (.inr (.inr hb)))).trans hb (fun b hb => .inl (hb.imp id .inl))).trans (mv_putObj _ _ _) (fun b hb => .inl (.inr (.inr hb)))
      intro e a3 W3 hp
      cases e with
      | normal =>
        obtain ⟨O', hi3, hO', hb⟩ := hp
        obtain ⟨W4, h1, h2, h3, h4, h5⟩ := fin none W3 hb
        have hm4 := mv_putObj W3 (w.heap.size + 1) (.loop (rec (if (none : Option Code).isNone then .ready else .done) none))
        rw [← h2] at hm4
        have hsz3 := hb.size
        have hsz4 := hm4.size
        have hsz0 := hnu.size
        refine ⟨_, _, h1, .inl ⟨rfl, O', ⟨by rw [h2]; exact hI.put hi3 h3 (by omega), h4, h5⟩, fun b hb' => (hO' b hb').imp id (Or.imp id (fun h => by omega)), ?_⟩⟩
        refine ⟨hm4.os.trans (hb.os.trans (hm2.os.trans hnu.os)), hm4.tape.trans (hb.tape.trans (hm2.tape.trans hnu.tape)), hm4.output.trans (hb.output.trans (hm2.output.trans hnu.output)), by omega, fun k hk hn => ?_⟩
        by_cases hkl : k = w.heap.size + 1
        · subst hkl; exact h4.trans hl₀.symm
        · exact (hm4.block k (by omega) hkl).trans ((hb.block k (by omega) hn).trans ((hm2.block k (by omega) hkl).trans (hnu.block k hk id)))
      | ret =>
        obtain ⟨hb, hi3⟩ := hp
        obtain ⟨W4, h1, rfl, h3, h4, h5⟩ := fin (some .ret) W3 hb
        exact ⟨_, _, h1, .inr ⟨rfl, ⟨_, (hIx _).put hi3 h3 (by omega), h4, h5⟩, out _ hb⟩⟩
      | exit id =>
        obtain ⟨hb, hi3⟩ := hp
        obtain ⟨W4, h1, rfl, h3, h4, h5⟩ := fin (some (.exit id)) W3 hb
        exact ⟨_, _, h1, .inr ⟨rfl, ⟨_, (hIx _).put hi3 h3 (by omega), h4, h5⟩, out _ hb⟩⟩
      | goto t =>
        obtain ⟨hb, hi3⟩ := hp
        obtain ⟨W4, h1, rfl, h3, h4, h5⟩ := fin (some (.goto t)) W3 hb
        exact ⟨_, _, h1, .inr ⟨rfl, ⟨_, (hIx _).put hi3 h3 (by omega), h4, h5⟩, out _ hb⟩⟩
      | panic ch => exact hp.elim
      | outgrown => exact hp.elim
    · rintro e W2 ⟨⟨v, rfl⟩, (⟨xs, O, hS, hi, hl, hd⟩ | ⟨pre, c, hi, hl, hd⟩)⟩
      · have hr := run_endLoop (P := Try.prog) hl (by rw [hrec]; simp)
        refine ⟨none, _, by rw [hr, hrec], hdone _ xs O _ rfl hS (hI.put hi hl (by omega)) ((World.putObj_heap_other (by omega)).trans hd)⟩
      · have hr := run_endLoop (P := Try.prog) hl (by rw [hrec]; simp)
        refine ⟨some c, _, by rw [hr, hrec], hstop _ c pre _ rfl ((hIx c).put hi hl (by omega)) ((World.putObj_heap_other (by omega)).trans hd)⟩

theorem range_net {n : Nat} {g : Operand} {ps : Array Tmp} {assign body : Code} {Q : Exit → Act → World → Prop} {a : Act} {w : World} {gf : Nat} {lb : Array Value}
    (hg : a.eval g = .func (.func gf) #[] lb) (eg : ∀ args w, (callFunc gf args).run Try.prog w = .ok (.enter gf args) w)
    {F : Nat → Prop} {ms : List Mov} (hseq : SeqN (n - 1) gf lb F ms w) (hF : ∀ b, F b → b < w.heap.size) (hps : 1 = ps.size)
    (I : List X × (Nat → Prop) → World → Prop) (Ix : Code → List X → World → Prop) (hI : AbidesO w.heap.size I) (hIx : ∀ c, Abides w.heap.size (Ix c)) (O₀ : Nat → Prop) (h0 : I ([], O₀) w)
    (hO : ∀ s A, I s A → ∀ b, s.2 b → b < A.heap.size ∧ ¬ F b ∧ (b < w.heap.size ∨ w.heap.size + 2 ≤ b)) (As : X × Act → World → Prop) (hAs : Abides w.heap.size As)
    (hassign : ∀ (l : Nat) (x : X) (W : World) (K : Act → World → Prop), w.heap.size + 2 ≤ W.heap.size → (∀ a₁ W₁, Nu W W₁ → As (x, a₁) W₁ → K a₁ W₁) →
      assign.wpIn (Fence.wide.inRound l) (n - 1 - 1) Try.prog (Exit.then K (fun _ _ _ => False)) { tmps := (ps.zip x.enc).foldl (fun t (p, v) => t.setIfInBounds p v) a.tmps, defers := [] } W)
    (hbody : ∀ (l : Nat) (pre : List X) (x : X) (O : Nat → Prop) (a₁ : Act) (W : World), I (pre, O) W → As (x, a₁) W → ms[pre.length]? = some x.m → w.heap.size + 2 ≤ W.heap.size → XOwn W (w.heap.size + 2) x → (∀ b, x.blk b → ¬ O b) →
      body.wpIn (Fence.wide.inRound l) (n - 1 - 1) Try.prog (leftN (fun p o => I (p, o)) Ix pre x O W) a₁ W)
    (hdone : ∀ (D : Nat) (xs : List X) (O : Nat → Prop) (W : World), w.heap.size ≤ D → xs.map X.m = ms → I (xs, O) W → W.heap[D]? = some (.deferred (some [])) → Q .normal { a with defers := { target := .collected D, args := #[] } :: a.defers } W)
    (hstop : ∀ (D : Nat) (c : Code) (pre : List X) (W : World), w.heap.size ≤ D → Ix c pre W → W.heap[D]? = some (.deferred (some [])) → c.wpIn Fence.wide n Try.prog Q { a with defers := { target := .collected D, args := #[] } :: a.defers } W) :
    (Code.rangeFunc g ps assign body).wpIn Fence.wide n Try.prog Q a w :=
  range_netD hg eg hseq hF hps I Ix hI hIx O₀ h0 hO As hAs hassign hbody (fun D xs O W h => hdone D xs O W (by omega)) (fun D c pre W h => hstop D c pre W (by omega))

end Go.Proofs.Ytcpgpiokjghcnaa
/-
  What a system is in memory, and what the statements ask of the program's functions.
-/
namespace Go.Proofs.Ytcpgpiokjghcnaa
open Go.RowKit

/-- What an int may hold. -/
def I64 (n : Int) : Prop := -9223372036854775808 ≤ n ∧ n ≤ 9223372036854775807

/-- A text that is no longer than memory. -/
def Short (s : ByteArray) : Prop := s.size ≤ 1000000000

def Enters (f : Nat) : Prop := ∀ args w, (callFunc f args).run Try.prog w = .ok (.enter f args) w

/-- Which function a call of an interface's method comes to. -/
def Leads (T : TypeId) (r0 : Value) (name : String) (f : Nat) (r : Value) : Prop := (∀ w : World, (method 241 T r0 name).run Try.prog w = .ok (f, r) w) ∧ Enters f ∧ ∀ w : World, (nilAhead 241 T r0 name).run Try.prog w = .ok (some false) w

def sval (s : Sight) : Value := .agg #[.int .u64 s.props, .bool s.en, .bool s.pr, .bool s.ac]

/-- What a system does, in a world. -/
structure SysDo (F : Nat → Prop) (w : World) (T : TypeId) (r0 : Value) (M : Sem) : Prop where
  bg : ∃ f r, Leads T r0 "Begin" f r ∧ Calls Try.prog f #[r] w fun e w' => e = .returned (.string M.begin) ∧ Nu w w'
  nx : ∃ f r, Leads T r0 "Next" f r ∧ ∀ st, Short st → Calls Try.prog f #[r, .string st] w fun e w' => ∃ gf lb G, e = .returned (.func (.func gf) #[] lb) ∧ Nu w w' ∧ Enters gf ∧ (∀ b, G b → b < w'.heap.size ∧ (F b ∨ w.heap.size ≤ b)) ∧ ∀ n, 1 ≤ n → SeqN n gf lb G (M.next st) w'
  lk : ∃ f r, Leads T r0 "Look" f r ∧ ∀ st, Short st → Calls Try.prog f #[r, .string st] w fun e w' => e = .returned (sval (M.look st)) ∧ Nu w w'

/-- A system: whatever else turns, as long as the blocks F stay. -/
structure SysAt (F : Nat → Prop) (w : World) (T : TypeId) (r0 : Value) (M : Sem) : Prop where
  lt : ∀ b, F b → b < w.heap.size
  does : ∀ w', KeepF F w w' → SysDo F w' T r0 M
theorem SysAt.keep {F : Nat → Prop} {w w' : World} {T : TypeId} {r0 : Value} {M : Sem} (h : SysAt F w T r0 M) (hk : KeepF F w w') : SysAt F w' T r0 M :=
  ⟨fun b hb => Nat.lt_of_lt_of_le (h.lt b hb) hk.1, fun w2 h2 => h.does w2 (hk.trans h2)⟩
theorem SysAt.mv {S F : Nat → Prop} {w w' : World} {T : TypeId} {r0 : Value} {M : Sem} (h : SysAt F w T r0 M) (hk : Mv S w w') (hS : ∀ b, F b → ¬ S b) : SysAt F w' T r0 M :=
  h.keep (hk.keep fun x hx => ⟨h.lt x hx, hS x hx⟩)
theorem SysAt.nu {F : Nat → Prop} {w w' : World} {T : TypeId} {r0 : Value} {M : Sem} (h : SysAt F w T r0 M) (hk : Nu w w') : SysAt F w' T r0 M := h.mv hk fun _ _ => id

/-- All texts of a system are short. -/
structure Sem.Fine (M : Sem) : Prop where
  b : Short M.begin
  n : ∀ st m, m ∈ M.next st → Short m.to

/-- What Explore answers. -/
def ExplOut (w : World) (M : Sem) (most : Int) (e : Ending) (w' : World) : Prop :=
  Nu w w' ∧ ∃ na nc sa sc ns ss code, e = .returned (.tuple #[.agg #[.slice na (List.length (α := Node) ns) nc], .slice sa (List.length (α := ByteArray) ss) sc, .int .i64 code]) ∧ NodesAt w' w'.heap.size na ns ∧ StrsAt w' w'.heap.size sa ss ∧
    (((most < 1 ∨ 20000 < most) ∧ code = 1 ∧ ns = [] ∧ ss = []) ∨ (1 ≤ most ∧ most ≤ 20000 ∧ explored M most.toNat = none ∧ code = 131 ∧ ns = [] ∧ ss = []) ∨ (1 ≤ most ∧ most ≤ 20000 ∧ explored M most.toNat = some (ns, ss) ∧ code = 0))

end Go.Proofs.Ytcpgpiokjghcnaa
