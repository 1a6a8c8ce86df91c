/-
  The walk of the statement StoreNothing, over the contracts of the program's functions.
-/
import Derived.Test.YtmpbganbhoknpaaYKnown
import Derived.RangeFuncNested
import Derived.RangeFuncBound
import Derived.RangeFuncCalls
import Derived.RangeFuncLeaves
import Derived.Shelf.Abstract
import Derived.Shelf.RegionOpen
import Derived.OwnWalkIn
import Derived.TacticsInMore
import Derived.LoopNIn
import Derived.LoopIn
namespace Go.Proofs.Ytmpbganbhoknpaa
open Go.RowKit Go.Shelf
attribute [local go_sem] Oper.semAt_some

/-- A number and a text, as a round gets them. -/
def encP (x : Nat × ByteArray) : Array Value := #[.int .i64 (x.1 : Int), .string x.2]

/-- Texts with their numbers. -/
def enumS (L : List ByteArray) : List (Nat × ByteArray) := (List.range L.length).zip L

/-- The contracts of All; gf: the function that it hands back. -/
structure ACons (St : (Nat → Prop) → World → Nat → List ByteArray → Nat → Nat → Prop) (gf : Nat) : Prop where
  enters : ∀ args w, (callFunc gf args).run Try.prog w = .ok (.enter gf args) w
  all : ∀ (w : World) F b L S R, St F w b L S R → Fine S R L → L.length ≤ 4000 → bytesIn L ≤ 140737488355328 → Calls Try.prog 21 #[.pointer (some ⟨b, 0, none⟩)] w fun e w' => ∃ lb, ∃ G : Nat → Prop, e = .returned (.func (.func gf) #[] lb) ∧ Below w.heap.size w w' ∧ (∀ x, G x → (F x ∨ w.heap.size ≤ x) ∧ x < w'.heap.size) ∧
    ∀ n, 1 ≤ n → SeqStopsK Fence.wide n Try.prog gf lb encP (KeepF G) (fun xs => xs = enumS L) (fun pre => pre <+: enumS L) L.length w'
  allN : ∀ (w : World), Calls Try.prog 21 #[.pointer none] w fun e w' => ∃ lb, e = .returned (.func (.func gf) #[] lb) ∧ Below w.heap.size w w' ∧
    ∀ n, 1 ≤ n → SeqStopsK Fence.wide n Try.prog gf lb encP (fun _ _ => True) (fun xs => xs = []) (fun _ => False) 0 w'

/-- 'for range f': a round takes nothing over. -/
theorem range_skip {α : Type} {n : Nat} {g : Operand} {ps : Array Tmp} {body : Code} {Q : Exit → Act → World → Prop} {a : Act} {w : World}
    (h1 : 1 ≤ n) {gf : Nat} {lb : Array Value} (hg : a.eval g = .func (.func gf) #[] lb) (eg : ∀ args w, (callFunc gf args).run Try.prog w = .ok (.enter gf args) w)
    {encs : α → Array Value} {Kp : World → World → Prop} {S Sp : List α → Prop} {N : Nat} {w0 : World} (hseq : SeqStopsK Fence.wide (n - 1) Try.prog gf lb encs Kp S Sp N w0)
    (hKt : ∀ {A B C : World}, Kp A B → Kp B C → Kp A C) (hKb : ∀ (W : World) (l : Nat) (o o' : Obj), w.heap.size ≤ l → W.heap[l]? = some o → o.isCells = false → o.isWalk = false → Kp W (W.putObj l o')) (hb0 : Below w0.heap.size w0 w) (hps : ∀ x, (encs x).size = ps.size)
    (I : List α → World → Prop) (Ix : Code → List α → World → Prop) (hI : OwnFrom w.heap.size I) (hIx : ∀ c, OwnFrom w.heap.size (Ix c)) (h0 : I [] w)
    (hbody : ∀ (l : Nat) (pre : List α) (x : α) (W : World), I pre W → pre.length < N → body.wpIn (Fence.wide.inRound l) (n - 1 - 1) Try.prog (ownPostK Kp I Ix (pre ++ [x]) W) { tmps := (ps.zip (encs x)).foldl (fun t (p, v) => t.setIfInBounds p v) a.tmps, defers := [] } W)
    (hdone : ∀ (D : Nat) (xs : List α) (W : World), w.heap.size ≤ D → S xs → I xs W → W.heap[D]? = some (.deferred (some [])) → Q .normal { a with defers := { target := .collected D, args := #[] } :: a.defers } W)
    (hstop : ∀ (D : Nat) (c : Code) (pre : List α) (W : World), w.heap.size ≤ D → Sp pre → Ix c pre W → W.heap[D]? = some (.deferred (some [])) → c.wpIn Fence.wide n Try.prog Q { a with defers := { target := .collected D, args := #[] } :: a.defers } W) :
    (Code.rangeFunc g ps Code.skip body).wpIn Fence.wide n Try.prog Q a w :=
  wpIn_rangeFunc_ownF (F := Fence.wide) rfl h1 hg trivial eg hseq hKt hKb hb0 hps I Ix hI hIx h0 (fun x => { tmps := (ps.zip (encs x)).foldl (fun t (p, v) => t.setIfInBounds p v) a.tmps, defers := [] })
    (fun _ _ _ _ hK => wpIn_skip hK) hbody hdone hstop

theorem own_box (w : World) (v : Value) (t : TypeId) {B : Nat} (hB : w.heap.size < B) : OwnFrom B (fun (_ : List (Nat × ByteArray)) (W : World) => W.heap[w.heap.size]? = some (.cells #[v] t (0, 0)) ∧ Below w.heap.size w W ∧ w.heap.size < W.heap.size) := by
  rintro pre W W' row ⟨h1, h2, h3⟩ hg hr
  have hn : some w.heap.size ≠ row := fun e => by
    obtain ⟨h4, _⟩ := hr _ e.symm
    omega
  exact ⟨(hg.block _ h3 hn).trans h1, h2.grown hg h2.size (fun k e => by have := (hr k e).1; omega), Nat.lt_of_lt_of_le h3 hg.size⟩

set_option maxHeartbeats 4000000 in
set_option maxRecDepth 100000 in
theorem StoreNothing_walk {St} {gf} (HC : SCons St) (HA : ACons St gf) (s : ByteArray) (n : Int) (w : World) :
    Calls Try.prog 6 #[.string s, .int .i64 n] w fun e w' => e = .returned (.bool true) ∧ Below w.heap.size w w' := by
  refine (callsIn_wide (n := 5)).1 ?_
  refine callsIn_of_wp_marks Try.func6 rfl trivial ?_ rfl
  simp only [Try.ntmps6, List.size_toArray, List.length_cons, List.length_nil, Nat.reduceAdd, Nat.reduceSub, Array.replicate_succ, Array.replicate_zero, List.push_toArray, List.append_toArray, List.nil_append, List.cons_append]
  have HB0 : Hid ((w.alloc (.cells #[.bool false] 4)).heap[w.heap.size]? = some (.cells #[.bool false] 4 (0, 0)) ∧ Below w.heap.size w (w.alloc (.cells #[.bool false] 4)) ∧ w.heap.size < (w.alloc (.cells #[.bool false] 4)).heap.size) := ⟨heap_alloc_new w _, (Below.refl _ _).alloc (Nat.le_refl _) _, by simp⟩
  gi_wp2_with (first
    | (refine ⟨trivial, ?_⟩; gi_at_call 11; refine (callsIn_wide.2 (HC.putN _ s)).mono ?_; rintro e w1 ⟨rfl, hk1⟩))
  generalize w.alloc (.cells #[.bool false] 4) = W0 at *
  have HB1 : Hid (w1.heap[w.heap.size]? = some (.cells #[.bool false] 4 (0, 0)) ∧ Below w.heap.size w w1 ∧ w.heap.size < w1.heap.size) := ⟨(hk1.block _ HB0.out.2.2).trans HB0.out.1, HB0.out.2.1.trans (hk1.mono HB0.out.2.1.size), Nat.lt_of_lt_of_le HB0.out.2.2 hk1.size⟩
  clear hk1 HB0
  refine ⟨trivial, ?_⟩
  refine (callsIn_wide.2 (HC.findN _ s)).mono ?_
  rintro e w2 ⟨rfl, hk2⟩
  have HB2 : Hid (w2.heap[w.heap.size]? = some (.cells #[.bool false] 4 (0, 0)) ∧ Below w.heap.size w w2 ∧ w.heap.size < w2.heap.size) := ⟨(hk2.block _ HB1.out.2.2).trans HB1.out.1, HB1.out.2.1.trans (hk2.mono HB1.out.2.1.size), Nat.lt_of_lt_of_le HB1.out.2.2 hk2.size⟩
  clear hk2 HB1
  gi_wp2_with (first
    | (refine ⟨trivial, ?_⟩; gi_at_call 15; refine (callsIn_wide.2 (HC.getN _ n)).mono ?_; rintro e w3 ⟨rfl, hk3⟩))
  have HB3 : Hid (w3.heap[w.heap.size]? = some (.cells #[.bool false] 4 (0, 0)) ∧ Below w.heap.size w w3 ∧ w.heap.size < w3.heap.size) := ⟨(hk3.block _ HB2.out.2.2).trans HB2.out.1, HB2.out.2.1.trans (hk3.mono HB2.out.2.1.size), Nat.lt_of_lt_of_le HB2.out.2.2 hk3.size⟩
  clear hk3 HB2
  refine ⟨trivial, ?_⟩
  refine (callsIn_wide.2 (HA.allN _)).mono ?_
  rintro e w4 ⟨lb, rfl, hk4, hseq⟩
  have HB4 : Hid (w4.heap[w.heap.size]? = some (.cells #[.bool false] 4 (0, 0)) ∧ Below w.heap.size w w4 ∧ w.heap.size < w4.heap.size) := ⟨(hk4.block _ HB3.out.2.2).trans HB3.out.1, HB3.out.2.1.trans (hk4.mono HB3.out.2.1.size), Nat.lt_of_lt_of_le HB3.out.2.2 hk4.size⟩
  clear hk4 HB3
  have hnil : ∀ W : World, (binOp BinOp.eql 48 (.func (.func gf) #[] lb) .nilFunc).run Try.prog W = .ok (.bool false) W := fun _ => by rfl
  gi_wp2
  have hI0 := HB4.out
  refine range_skip (by omega) rfl HA.enters (hseq 4 (by omega)) (fun _ _ => trivial) (fun _ _ _ _ _ _ _ _ => trivial) (Below.refl _ _) (fun _ => rfl)
    (fun _ W => W.heap[w.heap.size]? = some (.cells #[.bool false] 4 (0, 0)) ∧ Below w.heap.size w W ∧ w.heap.size < W.heap.size) (fun _ _ _ => False) (own_box w _ _ HB4.out.2.2) (fun _ => ownFrom_pure _ _) hI0 ?body ?done ?stop
  case body => exact fun _ _ _ _ _ h => absurd h (Nat.not_lt_zero _)
  case stop => exact fun _ _ _ _ _ h => h.elim
  case done =>
    rintro D xs W hD _ ⟨h1, h2, h3⟩ hK
    have HB : Hid (W.heap[w.heap.size]? = some (.cells #[.bool false] 4 (0, 0)) ∧ Below w.heap.size w W ∧ w.heap.size < W.heap.size ∧ W.heap[D]? = some (.deferred (some [])) ∧ w4.heap.size ≤ D) := ⟨h1, h2, h3, hK, hD⟩
    have HWD : Hid (w.heap.size < D) := Nat.lt_of_lt_of_le HB4.out.2.2 hD
    clear h1 h2 h3 hK hD hI0 HB4 hseq hnil
    gi_wp2_with (first
      | (refine ⟨trivial, ?_⟩; gi_at_call 17; refine (callsIn_wide.2 (HC.lenN _)).mono ?_; rintro e w5 ⟨rfl, hw⟩; replace hw := hw.symm; subst hw)
      | (refine ⟨trivial, ?_⟩; gi_at_call 18; refine (callsIn_wide.2 (HC.bytesN _)).mono ?_; rintro e w6 ⟨rfl, hw⟩; replace hw := hw.symm; subst hw))
    refine ⟨trivial, ?_⟩
    refine (callsIn_wide.2 (known_any HC W)).mono ?_
    rintro e w7 ⟨rfl, hk7⟩
    have hlt := HB.out.2.2.1
    have b1 := (hk7.block _ hlt).trans HB.out.1
    have b2 := HB.out.2.1.trans (hk7.mono HB.out.2.1.size)
    have hDlt : D < W.heap.size := (Array.getElem?_eq_some_iff.1 HB.out.2.2.2.1).1
    have b3 := (hk7.block _ hDlt).trans HB.out.2.2.2.1
    have c1 : w7.cell? ⟨w.heap.size, 0, none⟩ = some (.bool false) := Boxed.cell b1
    have f1 : w7.frozen? ⟨w.heap.size, 0, none⟩ = false := Boxed.frozen b1
    have hK' := (KeepsOthers.setCell w7 ⟨w.heap.size, 0, none⟩ (.bool true)).same D _ b3 rfl
    have hc5 := cell_kept (World.cell?_setCell_same' w7 ⟨w.heap.size, 0, none⟩ (.bool true) (by rw [c1]; rfl)) (grownBy_putObj' _ D (.deferred none)) (fun r e => by cases e; exact ⟨_, hK', rfl⟩)
    have hend : ∀ T : Array Value, T[4]?.getD undef = .pointer (some ⟨w.heap.size, 0, none⟩) → bodyPostM Fence.wide 5 Try.prog Try.f6 (fun e w' => e = Ending.returned (Value.bool true) ∧ Below w.heap.size w w') Exit.ret
        { tmps := T, defers := [{ target := Target.collected D, args := #[] }] } (w7.setCell { block := w.heap.size, off := 0 } (Value.bool true)) := by
      intro T hT
      refine ⟨by simp, .inl ⟨_, _, rfl, run_takeDeferred hK', ?_⟩⟩
      refine ⟨.bool true, ?_, rfl, (b2.setCell (p := ⟨w.heap.size, 0, none⟩) (by simp) _).trans (belowK_b (w := w) (Nat.le_refl _) _ D _ _ (Nat.le_of_lt HWD.out) hK' rfl rfl)⟩
      simp only [results, Try.results6]
      simp [hT, go_sem, hc5]
    have HE : Hid _ := hend
    clear hend hK' hc5 b1 b2 b3 hDlt hlt hk7
    gi_wp2
    exact HE.out _ rfl

end Go.Proofs.Ytmpbganbhoknpaa
