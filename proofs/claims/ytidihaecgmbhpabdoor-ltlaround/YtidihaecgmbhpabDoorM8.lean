/-
  QPre.
-/
import Derived.BigQuiet
import Derived.Deep.Cut
import Derived.Deep.QuietTactic
import Derived.Deep.RegionWith
import Derived.Handy
import Derived.WalkKit
import Derived.WalkLawsBesides
import Derived.WalkSpells
import Derived.Test.YtidihaecgmbhpabDoorRows
import Derived.Test.YtidihaecgmbhpabDoorM5
/-
  Calls that only look at trees: what the walks of such functions share.
-/
namespace Go.Proofs.YtidihaecgmbhpabDoor
open Go.RowKit Q

theorem hid {p : Prop} (h : p) : Hid p := h

/-- A call that only looks. -/
abbrev Looks (K : FuncId) (args : Array Value) (w : World) (v : Value) : Prop := Calls Tryd.prog K args w fun e w' => e = .returned v ∧ Nu w w'

/-- A box of three cells. -/
structure Box3 (w W0 : World) (c0 c1 c2 : Value) : Prop where
  mv : Nu w W0
  a0 : W0.cell? ⟨w.heap.size, 0, none⟩ = some c0
  a1 : W0.cell? ⟨w.heap.size, 1, none⟩ = some c1
  a2 : W0.cell? ⟨w.heap.size, 2, none⟩ = some c2
  lt : w.heap.size < W0.heap.size

theorem box3 (w : World) (c0 c1 c2 : Value) (t : TypeId) : Box3 w (w.alloc (.cells #[c0, c1, c2] t)) c0 c1 c2 := by
  have h : (w.alloc (.cells #[c0, c1, c2] t)).heap[w.heap.size]? = some (.cells #[c0, c1, c2] t (0, 0)) := heap_alloc_new w _
  exact ⟨Mv.alloc _ _ _, by rw [cell_blk h]; rfl, by rw [cell_blk h]; rfl, by rw [cell_blk h]; rfl, by simp⟩

/-- The kids of a tree, in memory. -/
def KidsAt (w : World) (P : Nat → Prop) (ao : Option Addr) (l : List T) : Prop :=
  ∀ (i : Nat) (t : T), l[i]? = some t → ∃ b o d0 d1 d2, ao = some ⟨b, o, none⟩ ∧ w.cell? ⟨b, o + i * 3, none⟩ = some d0 ∧ w.cell? ⟨b, o + i * 3 + 1, none⟩ = some d1 ∧ w.cell? ⟨b, o + i * 3 + 2, none⟩ = some d2 ∧ TIn w P d0 d1 d2 t

/-- The call of a kid. -/
theorem kids_call {K : FuncId} {val : T → Value} {w : World} {ao : Option Addr} {l : List T} (h : KidsAt w (fun _ => True) ao l) (ih : ∀ t ∈ l, ∀ (w : World) (c0 c1 c2 : Value), TAt w c0 c1 c2 t → Looks K #[.agg #[c0, c1, c2]] w (val t)) :
    ∀ i, i < l.length → ∃ b o d0 d1 d2 t, ao = some ⟨b, o, none⟩ ∧ w.cell? ⟨b, o + i * 3, none⟩ = some d0 ∧ w.cell? ⟨b, o + i * 3 + 1, none⟩ = some d1 ∧ w.cell? ⟨b, o + i * 3 + 2, none⟩ = some d2 ∧ l[i]? = some t ∧
      ∀ W, Nu w W → Looks K #[.agg #[d0, d1, d2]] W (val t) := fun i hi => by
  obtain ⟨b, o, d0, d1, d2, h1, h2, h3, h4, h5⟩ := h i _ (List.getElem?_eq_getElem hi)
  exact ⟨b, o, d0, d1, d2, _, h1, h2, h3, h4, List.getElem?_eq_getElem hi, fun W hW => ih _ (List.getElem_mem hi) W d0 d1 d2 (h5.nu hW)⟩

theorem any_take {p : T → Bool} {l : List T} (h : ∀ (i : Nat) t, l[i]? = some t → p t = false) : l.any p = false := by
  rw [List.any_eq_false]
  intro t ht
  obtain ⟨i, hi, rfl⟩ := List.getElem_of_mem ht
  rw [h i _ (List.getElem?_eq_getElem hi)]
  simp
theorem any_found {p : T → Bool} {l : List T} {i : Nat} {t : T} (h : l[i]? = some t) (hp : p t = true) : l.any p = true :=
  List.any_eq_true.2 ⟨t, List.mem_of_getElem? h, hp⟩
theorem all_take {p : T → Bool} {l : List T} (h : ∀ (i : Nat) t, l[i]? = some t → p t = true) : l.all p = true := by
  rw [List.all_eq_true]
  intro t ht
  obtain ⟨i, hi, rfl⟩ := List.getElem_of_mem ht
  exact h i _ (List.getElem?_eq_getElem hi)
theorem all_broken {p : T → Bool} {l : List T} {i : Nat} {t : T} (h : l[i]? = some t) (hp : p t = false) : l.all p = false := by
  rw [List.all_eq_false]
  exact ⟨t, List.mem_of_getElem? h, by simp [hp]⟩

/-- The first i kids, and one more. -/
theorem upto_succ {p : T → Bool} {x : Bool} {l : List T} {i : Nat} {t : T} (h : ∀ (j : Nat) u, j < i → l[j]? = some u → p u = x) (ht : l[i]? = some t) (hp : p t = x) : ∀ (j : Nat) u, j < i + 1 → l[j]? = some u → p u = x := by
  intro j u hj hu
  by_cases e : j = i
  · subst e; rw [ht] at hu; cases hu; exact hp
  · exact h j u (by omega) hu
theorem upto_all {p : T → Bool} {x : Bool} {l : List T} {N : Nat} (h : ∀ (j : Nat) u, j < N → l[j]? = some u → p u = x) (hN : l.length = N) : ∀ (j : Nat) u, l[j]? = some u → p u = x :=
  fun j u hu => h j u (by rw [← hN]; exact (List.getElem?_eq_some_iff.1 hu).1) hu

theorem ret_bool {a b : Bool} (h : a = b) : Ending.returned (.bool a) = .returned (.bool b) := by rw [h]
theorem ret_nat {a b : Nat} (h : a = b) : Ending.returned (.int .i64 (a : Int)) = .returned (.int .i64 (b : Int)) := by rw [h]

theorem hasNexts_any (l : List T) : T.hasNexts l = l.any T.hasNext := by
  induction l with
  | nil => rfl
  | cons a l ih => simp [T.hasNexts, ih]
theorem mays_all (l : List T) : T.mays l = l.all T.may := by
  induction l with
  | nil => rfl
  | cons a l ih => simp [T.mays, ih]

end Go.Proofs.YtidihaecgmbhpabDoor
