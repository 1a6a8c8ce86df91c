/-
  QKit.
-/
import Derived.Deep.Draws
import Derived.Laws.BytesArg
import Derived.Laws.IdiomStrings
import Derived.WalkKit
import Derived.Test.YtidihaecgmbhpabDoorM1
import Derived.Test.YtidihaecgmbhpabDoorM2
import Derived.Test.YtidihaecgmbhpabDoorM4
/-
  Trees in memory that are read, and what a step leaves as it was. Nothing of the program's text.
-/
namespace Go.Proofs.YtidihaecgmbhpabDoor
open Go.RowKit Q

theorem cell_blk {w : World} {b : Nat} {cs : Array Value} {t : TypeId} (h : w.heap[b]? = some (.cells cs t (0, 0))) (i : Nat) : w.cell? ⟨b, i, none⟩ = cs[i]? := by
  simp [World.cell?, h]
theorem free_blk {w : World} {b : Nat} {cs : Array Value} {t : TypeId} (h : w.heap[b]? = some (.cells cs t (0, 0))) (i : Nat) : w.frozen? ⟨b, i, none⟩ = false := by
  simp [World.frozen?, h]

/-- Blocks that were there and are not in S are as they were. -/
structure Mv (S : Nat → Prop) (w w' : World) : Prop where
  os : w'.os = w.os
  tape : w'.tape = w.tape
  output : w'.output = w.output
  size : w.heap.size ≤ w'.heap.size
  block : ∀ k, k < w.heap.size → ¬ S k → w'.heap[k]? = w.heap[k]?

theorem Mv.refl (S : Nat → Prop) (w : World) : Mv S w w := ⟨rfl, rfl, rfl, Nat.le_refl _, fun _ _ _ => rfl⟩
theorem Mv.trans {S T : Nat → Prop} {a b c : World} (h : Mv S a b) (k : Mv T b c) (ht : ∀ x, T x → S x ∨ a.heap.size ≤ x) : Mv S a c :=
  ⟨k.os.trans h.os, k.tape.trans h.tape, k.output.trans h.output, Nat.le_trans h.size k.size, fun i hi hn =>
    (k.block i (Nat.lt_of_lt_of_le hi h.size) (fun hx => (ht i hx).elim hn (fun h1 => by omega))).trans (h.block i hi hn)⟩
theorem Mv.mono {S T : Nat → Prop} {a b : World} (h : Mv S a b) (ht : ∀ x, S x → T x ∨ a.heap.size ≤ x) : Mv T a b := (Mv.refl T a).trans h ht
theorem Mv.heap {S : Nat → Prop} {w w' : World} (h : Mv S w w') {k : Nat} {o : Obj} (ho : w.heap[k]? = some o) (hn : ¬ S k) : w'.heap[k]? = some o :=
  (h.block k (Array.getElem?_eq_some_iff.1 ho).1 hn).trans ho
theorem Mv.alloc (S : Nat → Prop) (w : World) (o : Obj) : Mv S w (w.alloc o) := ⟨rfl, rfl, rfl, by simp, fun _ hk _ => Below.heap_alloc w o _ hk⟩
theorem Mv.drew (S : Nat → Prop) (w : World) : Mv S w w.drew := ⟨rfl, rfl, rfl, Nat.le_refl _, fun _ _ _ => rfl⟩
theorem Mv.drewN (S : Nat → Prop) (w : World) (n : Nat) : Mv S w (w.drewN n) := ⟨rfl, rfl, rfl, Nat.le_refl _, fun _ _ _ => rfl⟩
theorem Mv.setCell (w : World) (p : Addr) (u : Value) : Mv (· = p.block) w (w.setCell p u) :=
  ⟨rfl, rfl, rfl, by simp [World.setCell], fun _ _ hn => Below.heap_setCell _ _ _ _ (by simpa using hn)⟩
theorem Mv.grown {w w' : World} {row : Option Nat} (h : w.grownBy w' row) : Mv (fun x => row = some x) w w' :=
  ⟨h.os, h.tape, h.output, h.size, fun k hk hn => h.block k hk (fun e => hn e.symm)⟩
theorem Mv.below {w w' : World} (h : Mv (fun _ => False) w w') : Below w.heap.size w w' := ⟨h.os, h.tape, h.output, h.size, fun k hk => h.block k hk id⟩
theorem Mv.of_below {w w' : World} (h : Below w.heap.size w w') : Mv (fun _ => False) w w' := ⟨h.os, h.tape, h.output, h.size, fun k hk _ => h.block k hk⟩

theorem heap_alloc_new (w : World) (o : Obj) : (w.alloc o).heap[w.heap.size]? = some o := by
  show (w.heap.push o)[w.heap.size]? = some o
  simp

/-- Nothing that was there has turned. -/
abbrev Nu (w w' : World) : Prop := Mv (fun _ => False) w w'
theorem mv0 {a b c : World} (h : Nu a b) (k : Nu b c) : Nu a c := h.trans k (fun _ h => h.elim)

theorem cell_mv {S : Nat → Prop} {w w' : World} (h : Mv S w w') {b o : Nat} {v : Value} (hc : w.cell? ⟨b, o, none⟩ = some v) (hb : ¬ S b) : w'.cell? ⟨b, o, none⟩ = some v := by
  have hlt := World.block_lt_of_cell? w _ hc
  have := h.block b hlt hb
  unfold World.cell? at hc ⊢
  simp only at hc ⊢
  rw [this]
  exact hc
theorem frozen_mv {S : Nat → Prop} {w w' : World} (h : Mv S w w') {b o : Nat} {x : Bool} (hlt : b < w.heap.size) (hc : w.frozen? ⟨b, o, none⟩ = x) (hb : ¬ S b) : w'.frozen? ⟨b, o, none⟩ = x := by
  have := h.block b hlt hb
  unfold World.frozen? at hc ⊢
  simp only at hc ⊢
  rw [this]
  exact hc

def strOfL (l : List UInt8) : ByteArray := ⟨l.toArray⟩

/-- What three cells hold: a tree; its blocks are such as P tells. -/
inductive TIn (w : World) (P : Nat → Prop) : Value → Value → Value → T → Prop where
  | leaf (k : Int) (n : Wd) (ao : Option Addr) (cap : Nat) (hk : -9223372036854775808 ≤ k ∧ k ≤ 9223372036854775807) (hn : n.length ≤ 140737488355328) : TIn w P (.int .i64 k) (.string (strOfL n)) (.slice ao 0 cap) (.mk k n [])
  | node (k : Int) (n : Wd) (l : List T) (b o cap : Nat) (C : Nat → Value × Value × Value) (hk : -9223372036854775808 ≤ k ∧ k ≤ 9223372036854775807) (hn : n.length ≤ 140737488355328) (hl : l.length ≤ 140737488355328) (hP : P b)
      (h0 : ∀ i, i < l.length → w.cell? ⟨b, o + i * 3, none⟩ = some (C i).1 ∧ w.cell? ⟨b, o + i * 3 + 1, none⟩ = some (C i).2.1 ∧ w.cell? ⟨b, o + i * 3 + 2, none⟩ = some (C i).2.2)
      (hlt : Cln w b)
      (hr : ∀ (i : Nat) t, l[i]? = some t → TIn w P (C i).1 (C i).2.1 (C i).2.2 t) : TIn w P (.int .i64 k) (.string (strOfL n)) (.slice (some ⟨b, o, none⟩) l.length cap) (.mk k n l)

theorem TIn.mv {S : Nat → Prop} {w w' : World} {P : Nat → Prop} {c0 c1 c2 : Value} {t : T} (h : TIn w P c0 c1 c2 t) (hm : Mv S w w') (hS : ∀ x, P x → x < w.heap.size → ¬ S x) : TIn w' P c0 c1 c2 t := by
  induction h with
  | leaf k n ao cap hk hn => exact .leaf k n ao cap hk hn
  | node k n l b o cap C hk hn hl hP h0 hlt hr ih =>
    exact .node k n l b o cap C hk hn hl hP (fun i hi => ⟨cell_mv hm (h0 i hi).1 (hS b hP hlt.lt), cell_mv hm (h0 i hi).2.1 (hS b hP hlt.lt), cell_mv hm (h0 i hi).2.2 (hS b hP hlt.lt)⟩)
      (by obtain ⟨cs, ty, hc⟩ := hlt; exact ⟨cs, ty, hm.heap hc (hS b hP (Cln.lt ⟨cs, ty, hc⟩))⟩) (fun i t ht => ih i t ht)

theorem TIn.mono {w : World} {P R : Nat → Prop} {c0 c1 c2 : Value} {t : T} (h : TIn w P c0 c1 c2 t) (hp : ∀ x, P x → x < w.heap.size → R x) : TIn w R c0 c1 c2 t := by
  induction h with
  | leaf k n ao cap hk hn => exact .leaf k n ao cap hk hn
  | node k n l b o cap C hk hn hl hP h0 hlt hr ih => exact .node k n l b o cap C hk hn hl (hp b hP hlt.lt) h0 hlt ih

theorem TIn.nu {w w' : World} {P : Nat → Prop} {c0 c1 c2 : Value} {t : T} (h : TIn w P c0 c1 c2 t) (hm : Nu w w') : TIn w' P c0 c1 c2 t := h.mv hm (fun _ _ _ h => h)

/-- A tree's cells by their form. -/
theorem TIn.form {w : World} {P : Nat → Prop} {c0 c1 c2 : Value} {k : Int} {n : Wd} {l : List T} (h : TIn w P c0 c1 c2 (.mk k n l)) :
    (-9223372036854775808 ≤ k ∧ k ≤ 9223372036854775807) ∧ n.length ≤ 140737488355328 ∧ (l.length : Int) ≤ 140737488355328 ∧ c0 = .int .i64 k ∧ c1 = .string (strOfL n) ∧ ∃ ao cap, c2 = .slice ao l.length cap ∧
      ∀ (i : Nat) (t : T), l[i]? = some t → ∃ b o d0 d1 d2, ao = some ⟨b, o, none⟩ ∧ w.cell? ⟨b, o + i * 3, none⟩ = some d0 ∧ w.cell? ⟨b, o + i * 3 + 1, none⟩ = some d1 ∧ w.cell? ⟨b, o + i * 3 + 2, none⟩ = some d2 ∧ TIn w P d0 d1 d2 t := by
  cases h with
  | leaf _ _ ao cap hk hn => exact ⟨hk, hn, by simp, rfl, rfl, ao, cap, rfl, fun i t ht => by simp at ht⟩
  | node _ _ _ b o cap C hk hn hl hP h0 hlt hr =>
    refine ⟨hk, hn, by omega, rfl, rfl, _, _, rfl, fun i t ht => ?_⟩
    have hi : i < l.length := (List.getElem?_eq_some_iff.1 ht).1
    obtain ⟨e0, e1, e2⟩ := h0 i hi
    exact ⟨b, o, _, _, _, rfl, e0, e1, e2, hr i t ht⟩

/-- A tree in memory, somewhere. -/
abbrev TAt (w : World) (c0 c1 c2 : Value) (t : T) : Prop := TIn w (fun _ => True) c0 c1 c2 t

end Go.Proofs.YtidihaecgmbhpabDoor
