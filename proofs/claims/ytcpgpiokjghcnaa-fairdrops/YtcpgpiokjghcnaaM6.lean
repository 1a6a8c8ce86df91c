/-
  NKit.
-/
import Derived.Below
import Derived.Test.YtcpgpiokjghcnaaM4
/-
  What a step leaves of a world as it was: laws on worlds; nothing of the program's text.
-/
namespace Go.Proofs.Ytcpgpiokjghcnaa
open Go.RowKit

/-- Blocks that were there and are not in S are as they were. -/
structure Mv (S : Nat → Prop) (w w' : World) : Prop where
  os : w'.os = w.os
  tape : w'.tape = w.tape
  output : w'.output = w.output
  size : w.heap.size ≤ w'.heap.size
  block : ∀ k, k < w.heap.size → ¬ S k → w'.heap[k]? = w.heap[k]?

theorem Mv.refl (S : Nat → Prop) (w : World) : Mv S w w := ⟨rfl, rfl, rfl, Nat.le_refl _, fun _ _ _ => rfl⟩
theorem Mv.trans {S T : Nat → Prop} {a b c : World} (h : Mv S a b) (k : Mv T b c) (ht : ∀ x, T x → S x ∨ a.heap.size ≤ x) : Mv S a c :=
  ⟨k.os.trans h.os, k.tape.trans h.tape, k.output.trans h.output, Nat.le_trans h.size k.size, fun i hi hn =>
    (k.block i (Nat.lt_of_lt_of_le hi h.size) (fun hx => (ht i hx).elim hn (fun h1 => by omega))).trans (h.block i hi hn)⟩
theorem Mv.mono {S T : Nat → Prop} {a b : World} (h : Mv S a b) (ht : ∀ x, S x → T x ∨ a.heap.size ≤ x) : Mv T a b := (Mv.refl T a).trans h ht
theorem Mv.heap {S : Nat → Prop} {w w' : World} (h : Mv S w w') {k : Nat} {o : Obj} (ho : w.heap[k]? = some o) (hn : ¬ S k) : w'.heap[k]? = some o :=
  (h.block k (Array.getElem?_eq_some_iff.1 ho).1 hn).trans ho
theorem Mv.alloc (S : Nat → Prop) (w : World) (o : Obj) : Mv S w (w.alloc o) := ⟨rfl, rfl, rfl, by simp, fun _ hk _ => Below.heap_alloc w o _ hk⟩
theorem Mv.drewN (S : Nat → Prop) (w : World) (n : Nat) : Mv S w (w.drewN n) := ⟨rfl, rfl, rfl, Nat.le_refl _, fun _ _ _ => rfl⟩
theorem Mv.setCell (w : World) (p : Addr) (u : Value) : Mv (· = p.block) w (w.setCell p u) :=
  ⟨rfl, rfl, rfl, by simp [World.setCell], fun _ _ hn => Below.heap_setCell _ _ _ _ (by simpa using hn)⟩
theorem Mv.grown {w w' : World} {row : Option Nat} (h : w.grownBy w' row) : Mv (fun x => row = some x) w w' :=
  ⟨h.os, h.tape, h.output, h.size, fun k hk hn => h.block k hk (fun e => hn e.symm)⟩
theorem Mv.below {S : Nat → Prop} {B : Nat} {w w' : World} (h : Mv S w w') (hB : B ≤ w.heap.size) (hS : ∀ x, S x → B ≤ x) : Below B w w' :=
  ⟨h.os, h.tape, h.output, h.size, fun k hk => h.block k (by omega) (fun hx => by have := hS k hx; omega)⟩
theorem Mv.of_below {S : Nat → Prop} {B : Nat} {w w' : World} (h : Below B w w') (hS : ∀ x, x < w.heap.size → B ≤ x → S x) : Mv S w w' :=
  ⟨h.os, h.tape, h.output, h.size, fun k hk hn => h.block k (Nat.lt_of_not_le (fun h1 => hn (hS k hk h1)))⟩

/-- Nothing that was there has turned. -/
abbrev Nu (w w' : World) : Prop := Mv (fun _ => False) w w'
theorem Mv.nu_below {w w' : World} (h : Nu w w') : Below w.heap.size w w' := h.below (Nat.le_refl _) (fun _ h => h.elim)
theorem Nu.of_below {w w' : World} (h : Below w.heap.size w w') : Nu w w' := ⟨h.os, h.tape, h.output, h.size, fun k hk _ => h.block k hk⟩
theorem mv0 {a b c : World} (h : Nu a b) (k : Nu b c) : Nu a c := h.trans k (fun _ h => h.elim)
theorem nu_mv {S : Nat → Prop} {a b c : World} (h : Mv S a b) (k : Nu b c) : Mv S a c := h.trans k (fun _ h => h.elim)

theorem cell_mv {S : Nat → Prop} {w w' : World} (h : Mv S w w') {b o : Nat} {v : Value} (hc : w.cell? ⟨b, o, none⟩ = some v) (hb : ¬ S b) : w'.cell? ⟨b, o, none⟩ = some v := by
  have hlt := World.block_lt_of_cell? w _ hc
  have := h.block b hlt hb
  unfold World.cell? at hc ⊢
  simp only at hc ⊢
  rw [this]
  exact hc

/-- Blocks of F are as they were. -/
def KeepF (F : Nat → Prop) (w w' : World) : Prop := w.heap.size ≤ w'.heap.size ∧ ∀ x, F x → w'.heap[x]? = w.heap[x]?
theorem KeepF.refl (F : Nat → Prop) (w : World) : KeepF F w w := ⟨Nat.le_refl _, fun _ _ => rfl⟩
theorem KeepF.trans {F : Nat → Prop} {A B C : World} (h : KeepF F A B) (k : KeepF F B C) : KeepF F A C := ⟨Nat.le_trans h.1 k.1, fun x hx => (k.2 x hx).trans (h.2 x hx)⟩
theorem Mv.keep {S F : Nat → Prop} {w w' : World} (h : Mv S w w') (hF : ∀ x, F x → x < w.heap.size ∧ ¬ S x) : KeepF F w w' := ⟨h.size, fun x hx => h.block x (hF x hx).1 (hF x hx).2⟩

end Go.Proofs.Ytcpgpiokjghcnaa
