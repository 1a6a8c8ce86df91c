/-
  NMap.
-/
import Derived.Carry
import Derived.Maps.OwnIn
import Derived.Test.YtkjalclplfdpmaaM23
/-
  Which number a state has, as a map tells it. Laws on worlds.
-/
namespace Go.Proofs.Ytkjalclplfdpmaa
open Go.RowKit Go.Maps

/-- One more than a state's number; 0: it has none. -/
def numOf (states : List ByteArray) (s : ByteArray) : Int := match plc states s with | some k => (k : Int) + 1 | none => 0
theorem numOf_some {states : List ByteArray} {s : ByteArray} {k : Nat} (h : plc states s = some k) : numOf states s = (k : Int) + 1 := by simp [numOf, h]
theorem numOf_none {states : List ByteArray} {s : ByteArray} (h : plc states s = none) : numOf states s = 0 := by simp [numOf, h]

theorem skey : Keyed Try.prog 9 := string_keyed Try.underlying9

/-- The map tells the numbers of these states. -/
def MapIs (W : World) (mb : Nat) (states : List ByteArray) : Prop :=
  ∃ n, ∃ D : DataW Unit, W.ownsMap Try.prog 9 (plainElem Try.prog 3) mb n D ∧ n ≤ states.length ∧ ∀ s : ByteArray, D.atKey (.string s.data.toList) (.lit (.int .i64 0)) = .lit (.int .i64 (numOf states s))

theorem MapIs.mv {S : Nat → Prop} {W W' : World} {mb : Nat} {states : List ByteArray} (h : MapIs W mb states) (hm : Mv S W W') (hn : ¬ S mb) : MapIs W' mb states := by
  obtain ⟨n, D, ⟨es, clock, hb, r⟩, h2⟩ := h
  exact ⟨n, D, ⟨es, clock, hm.heap hb hn, r⟩, h2⟩
theorem MapIs.made (W : World) : MapIs (W.alloc (.map #[] 0)) W.heap.size [] :=
  ⟨0, .map [], World.ownsMap_made W _ _ _, Nat.le_refl _, fun _ => rfl⟩
theorem MapIs.blk {W : World} {mb : Nat} {states : List ByteArray} (h : MapIs W mb states) : ∃ es clock, W.heap[mb]? = some (.map es clock) := by
  obtain ⟨n, D, ⟨es, clock, hb, _⟩, _⟩ := h
  exact ⟨es, clock, hb⟩

theorem str_lit {s t : ByteArray} (h : (Lit.string s.data.toList) = .string t.data.toList) : s = t := by
  have h1 : s.data.toList = t.data.toList := by simpa using h
  exact ByteArray.ext (Array.ext' h1)

/-- A state more. -/
theorem MapIs.put {W W' : World} {mb n : Nat} {D : DataW Unit} {states : List ByteArray} {s : ByteArray} (ho : W.ownsMap Try.prog 9 (plainElem Try.prog 3) mb n D) (hn : n ≤ states.length) (hD : ∀ s : ByteArray, D.atKey (.string s.data.toList) (.lit (.int .i64 0)) = .lit (.int .i64 (numOf states s)))
    (hs : plc states s = none) (h' : W'.ownsMap Try.prog 9 (plainElem Try.prog 3) mb (n + 1) (D.put (.string s.data.toList) (.lit (.int .i64 ((states.length : Int) + 1))))) : MapIs W' mb (states ++ [s]) := by
  refine ⟨n + 1, _, h', by simp; omega, fun t => ?_⟩
  have hmap : IsMap D := by obtain ⟨es, clock, _, _, _, hd⟩ := ho; exact ⟨_, hd⟩
  by_cases he : t = s
  · subst he
    rw [atKey_put_same hmap (show WideAt.IsKeyLit (.string t.data.toList) from trivial), numOf_some (plc_new (plc_none.1 hs))]
  · rw [atKey_put_other (fun e => he (str_lit e)), hD t]
    have : numOf (states ++ [s]) t = numOf states t := by
      unfold numOf
      rw [plc_other (fun e => he e.symm)]
    rw [this]

end Go.Proofs.Ytkjalclplfdpmaa
