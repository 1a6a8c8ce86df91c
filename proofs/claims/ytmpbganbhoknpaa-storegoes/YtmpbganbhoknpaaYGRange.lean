/-
  'for n, s := range t.All()' where the body puts states into the store: a law for the loop. Laws on the model; nothing of the program's text.
-/
import Derived.Test.YtmpbganbhoknpaaYStIt
set_option linter.unusedSimpArgs false
set_option linter.unusedVariables false
namespace Go.Proofs.Ytmpbganbhoknpaa
open Go.RowKit

/-- What belongs to the books of loops. -/
def bookO : Obj → Bool
  | .loop _ => true
  | .deferred _ => true
  | _ => false
theorem mv_putObj (W : World) (l : Nat) (o : Obj) : Mv (· = l) W (W.putObj l o) :=
  ⟨rfl, rfl, rfl, by simp, fun k _ hn => World.putObj_heap_other hn⟩

/-- An iterator over a list that may become longer while it is gone over: Lf k: the list behind k rounds. -/
def SeqG (n : Nat) (gf : FuncId) (lb : Array Value) (Lf : Nat → List ByteArray) (Con : Nat → World → Prop) : Prop :=
  ∀ (l : Nat) (J : Nat → World → Prop) (Jx : World → Prop) (W : World), (∀ k A A', J k A → Nu A A' → J k A') → (∀ k A, J k A → Con k A) →
    (∀ k s A, J k A → (Lf k)[k]? = some s → YieldAt Fence.wide (n - 1) Try.prog l (encP (k, s)) A fun e W' => (e = .returned (.bool true) ∧ J (k + 1) W') ∨ (e = .returned (.bool false) ∧ Jx W')) → J 0 W →
    CallsIn Fence.wide n Try.prog gf (#[.func (.yield l) #[] #[]] ++ lb) W fun e W' => (∃ v, e = .returned v) ∧ ((∃ k, J k W' ∧ k = (Lf k).length) ∨ Jx W')

/-- The loop's books are as they were. -/
def BK (H : Nat) (W W' : World) : Prop := W.heap.size ≤ W'.heap.size ∧ W'.heap[H]? = W.heap[H]? ∧ W'.heap[H + 1]? = W.heap[H + 1]?

/-- How a round may be left. -/
def leftG (H : Nat) (I : Nat → World → Prop) (Ix : Code → World → Prop) (k : Nat) (W : World) : Exit → Act → World → Prop
  | .normal, _, W' => BK H W W' ∧ I (k + 1) W'
  | .ret, _, W' => BK H W W' ∧ Ix .ret W'
  | .exit id, _, W' => BK H W W' ∧ Ix (.exit id) W'
  | .goto t, _, W' => BK H W W' ∧ Ix (.goto t) W'
  | .panic _, _, _ => False
  | .outgrown, _, _ => False

/-- What is known stays so where new blocks come and the books of loops from B on turn. -/
def AbidesG (B : Nat) (I : World → Prop) : Prop := ∀ A A', I A → Mv (fun x => B ≤ x ∧ ∃ o, A.heap[x]? = some o ∧ bookO o = true) A A' → I A'
theorem AbidesG.put {B : Nat} {I : World → Prop} (h : AbidesG B I) {W : World} {l : Nat} {r r' : Loop} (hi : I W) (hl : W.heap[l]? = some (.loop r)) (hB : B ≤ l) : I (W.putObj l (.loop r')) :=
  h W _ hi ((mv_putObj W l _).mono (fun x hx => .inl ⟨by omega, .loop r, by rw [hx]; exact hl, rfl⟩))
theorem AbidesG.nu {B : Nat} {I : World → Prop} (h : AbidesG B I) {W W' : World} (hi : I W) (hm : Nu W W') : I W' := h W W' hi (hm.mono (fun _ h => h.elim))

theorem range_store {n : Nat} {g : Operand} {ps : Array Tmp} {assign body : Code} {Q : Exit → Act → World → Prop} {a : Act} {w : World} {gf : Nat} {lb : Array Value}
    (hg : a.eval g = .func (.func gf) #[] lb) (eg : ∀ args w, (callFunc gf args).run Try.prog w = .ok (.enter gf args) w)
    {Lf : Nat → List ByteArray} {Con : Nat → World → Prop} (hseq : SeqG (n - 1) gf lb Lf Con) (hps : 2 = ps.size)
    (I : Nat → World → Prop) (Ix : Code → World → Prop) (hI : ∀ k, AbidesG w.heap.size (I k)) (hIx : ∀ c, AbidesG w.heap.size (Ix c)) (h0 : I 0 w) (hCon : ∀ k A, I k A → Con k A) (a₁ : Nat → ByteArray → Act)
    (hassign : ∀ (l k : Nat) (s : ByteArray) (W : World) (K : Act → World → Prop), K (a₁ k s) W →
      assign.wpIn (Fence.wide.inRound l) (n - 1 - 1) Try.prog (Exit.then K (fun _ _ _ => False)) { tmps := (ps.zip (encP (k, s))).foldl (fun t (p, v) => t.setIfInBounds p v) a.tmps, defers := [] } W)
    (hbody : ∀ (l k : Nat) (s : ByteArray) (W : World), I k W → (Lf k)[k]? = some s → w.heap.size + 2 ≤ W.heap.size → body.wpIn (Fence.wide.inRound l) (n - 1 - 1) Try.prog (leftG w.heap.size I Ix k W) (a₁ k s) W)
    (hdone : ∀ (D k : Nat) (W : World), w.heap.size ≤ D → k = (Lf k).length → I k W → W.heap[D]? = some (.deferred (some [])) → Q .normal { a with defers := { target := .collected D, args := #[] } :: a.defers } W)
    (hstop : ∀ (D : Nat) (c : Code) (W : World), w.heap.size ≤ D → Ix c W → W.heap[D]? = some (.deferred (some [])) → c.wpIn Fence.wide n Try.prog Q { a with defers := { target := .collected D, args := #[] } :: a.defers } W) :
    (Code.rangeFunc g ps assign body).wpIn Fence.wide n Try.prog Q a w := by
  refine wpIn_rangeFunc fun fn hfn => ?_
  obtain ⟨rec, hrec⟩ : ∃ rec : LoopState → Option Code → Loop, ∀ st pe, rec st pe = { state := st, pending := pe, fn, tmps := a.tmps, params := ps, assign, body, defers := w.heap.size } := ⟨fun st pe => _, fun _ _ => rfl⟩
  obtain ⟨W1, hW1⟩ : ∃ W1, (w.alloc (.deferred (some []))).alloc (.loop (rec .ready none)) = W1 := ⟨_, rfl⟩
  have hent : (Instr.enterLoop fn a.tmps ps assign body Fence.wide.round).run Try.prog w = .ok (w.heap.size + 1, [{ target := .collected w.heap.size, args := #[] }]) W1 := by
    rw [← hW1, hrec]
    exact run_enterLoop_outer _ _ _ _ _
  have hsz : W1.heap.size = w.heap.size + 1 + 1 := by rw [← hW1]; simp
  have hM1 : Nu w W1 := by rw [← hW1]; exact mv0 (Mv.alloc _ _ _) (Mv.alloc _ _ _)
  have hD1 : W1.heap[w.heap.size]? = some (.deferred (some [])) := by
    rw [← hW1]
    exact (Mv.alloc (fun _ => False) _ _).heap (heap_alloc_new w _) id
  have hL1 : W1.heap[w.heap.size + 1]? = some (.loop (rec .ready none)) := by
    have := heap_alloc_new (w.alloc (.deferred (some []))) (.loop (rec .ready none))
    rw [hW1, show (w.alloc (.deferred (some []))).heap.size = w.heap.size + 1 by simp] at this
    exact this
  refine ⟨w.heap.size + 1, [{ target := .collected w.heap.size, args := #[] }], W1, { target := .fn (.func gf) lb, args := #[.func (.yield (w.heap.size + 1)) #[] #[]] }, W1, gf, #[.func (.yield (w.heap.size + 1)) #[] #[]] ++ lb, W1, hent, ?_, ?_, ?_, (fun h => by simp [Fence.wide] at h), ?_⟩
  · simp only [resolve, hg]
    simp [go_sem]
  · exact fun _ _ => trivial
  · simp [invoke, go_sem, eg]
  · have key := hseq (w.heap.size + 1)
      (fun k W => I k W ∧ W.heap[w.heap.size + 1]? = some (.loop (rec .ready none)) ∧ W.heap[w.heap.size]? = some (.deferred (some [])))
      (fun W => ∃ c, Ix c W ∧ W.heap[w.heap.size + 1]? = some (.loop (rec .done (some c))) ∧ W.heap[w.heap.size]? = some (.deferred (some [])))
      W1 (fun k A A' h hm => ⟨(hI k).nu h.1 hm, hm.heap h.2.1 id, hm.heap h.2.2 id⟩) (fun k A h => hCon k A h.1)
    refine (key ?_ ⟨(hI 0).nu h0 hM1, hL1, hD1⟩).mono ?_
    · rintro k s W ⟨hi, hl, hd⟩ hks
      have hy := run_yield (P := Try.prog) (args := encP (k, s)) hl (by rw [hrec]; exact hps)
      rw [hrec] at hy
      refine ⟨fn, _, assign, body, hy, roundIn_of_wpIn hfn (hassign _ k s W _ ?_)⟩
      refine ⟨_, run_beginRound hl (by rw [hrec]), ?_⟩
      have hlt : w.heap.size + 1 < W.heap.size := (Array.getElem?_eq_some_iff.1 hl).1
      have hl2 : (W.putObj (w.heap.size + 1) (.loop { rec .ready none with state := .busy })).heap[w.heap.size + 1]? = some (.loop { rec .ready none with state := .busy }) := World.putObj_heap_same hlt
      have hd2 : (W.putObj (w.heap.size + 1) (.loop { rec .ready none with state := .busy })).heap[w.heap.size]? = some (.deferred (some [])) := (World.putObj_heap_other (by omega)).trans hd
      have hm2 := mv_putObj W (w.heap.size + 1) (.loop { rec .ready none with state := .busy })
      have hi2 := (hI k).put (r' := { rec .ready none with state := .busy }) hi hl (by omega)
      generalize W.putObj (w.heap.size + 1) (.loop { rec .ready none with state := .busy }) = W2 at hl2 hd2 hi2 hm2 ⊢
      have hsz2 := hm2.size
      refine wpIn_mono (hbody _ k s W2 hi2 hks (by omega)) ?_
      have fin : ∀ (jump : Option Code) (W3 : World), BK w.heap.size W2 W3 → ∃ W4, (Instr.endRound (w.heap.size + 1) jump).run Try.prog W3 = .ok (.bool jump.isNone) W4 ∧ W4 = W3.putObj (w.heap.size + 1) (.loop (rec (if jump.isNone then .ready else .done) jump)) ∧
          W3.heap[w.heap.size + 1]? = some (.loop { rec .ready none with state := .busy }) ∧ W4.heap[w.heap.size + 1]? = some (.loop (rec (if jump.isNone then .ready else .done) jump)) ∧ W4.heap[w.heap.size]? = some (.deferred (some [])) := fun jump W3 hb => by
        have hl3 := hb.2.2.trans hl2
        have hd3 := hb.2.1.trans hd2
        have hr := run_endRound (P := Try.prog) jump hl3
        refine ⟨_, ?_, rfl, hl3, World.putObj_heap_same (Array.getElem?_eq_some_iff.1 hl3).1, (World.putObj_heap_other (by omega)).trans hd3⟩
        rw [hr, hrec, hrec]
      intro e a3 W3 hp
      cases e with
      | normal =>
        obtain ⟨hb, hi3⟩ := hp
        obtain ⟨W4, h1, h2, h3, h4, h5⟩ := fin none W3 hb
        exact ⟨_, _, h1, .inl ⟨rfl, by rw [h2]; exact (hI _).put hi3 h3 (by omega), h4, h5⟩⟩
      | ret =>
        obtain ⟨hb, hi3⟩ := hp
        obtain ⟨W4, h1, rfl, h3, h4, h5⟩ := fin (some .ret) W3 hb
        exact ⟨_, _, h1, .inr ⟨rfl, ⟨_, (hIx _).put hi3 h3 (by omega), h4, h5⟩⟩⟩
      | exit id =>
        obtain ⟨hb, hi3⟩ := hp
        obtain ⟨W4, h1, rfl, h3, h4, h5⟩ := fin (some (.exit id)) W3 hb
        exact ⟨_, _, h1, .inr ⟨rfl, ⟨_, (hIx _).put hi3 h3 (by omega), h4, h5⟩⟩⟩
      | goto t =>
        obtain ⟨hb, hi3⟩ := hp
        obtain ⟨W4, h1, rfl, h3, h4, h5⟩ := fin (some (.goto t)) W3 hb
        exact ⟨_, _, h1, .inr ⟨rfl, ⟨_, (hIx _).put hi3 h3 (by omega), h4, h5⟩⟩⟩
      | panic ch => exact hp.elim
      | outgrown => exact hp.elim
    · rintro e W2 ⟨⟨v, rfl⟩, (⟨k, ⟨hi, hl, hd⟩, hk⟩ | ⟨c, hi, hl, hd⟩)⟩
      · have hr := run_endLoop (P := Try.prog) hl (by rw [hrec]; simp)
        refine ⟨none, _, by rw [hr, hrec], hdone _ k _ (Nat.le_refl _) hk ((hI k).put hi hl (by omega)) ((World.putObj_heap_other (by omega)).trans hd)⟩
      · have hr := run_endLoop (P := Try.prog) hl (by rw [hrec]; simp)
        refine ⟨some c, _, by rw [hr, hrec], hstop _ c _ (Nat.le_refl _) ((hIx c).put hi hl (by omega)) ((World.putObj_heap_other (by omega)).trans hd)⟩

/-- The store's iterator is one. -/
theorem all1_seqG {n : Nat} (hn : 1 ≤ n) (b Bn : Nat) (Lf : Nat → List ByteArray) : SeqG n 26 #[.pointer (some ⟨Bn, 0, none⟩)] Lf (fun k A => CL b Bn (Lf k) A ∧ k ≤ (Lf k).length) :=
  fun l J Jx W hN hC hY h0 => all1_any n hn b Bn l Lf J Jx W hN hC hY h0

end Go.Proofs.Ytmpbganbhoknpaa
