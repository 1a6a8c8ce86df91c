/-
  QMap.
-/
import Derived.Carry
import Derived.LaidEql
import Derived.Laws.StructEq
import Derived.MapKept
import Derived.WalkKit
/-
  Sets that are kept as maps, their keys structs that hold addresses: what a look-up and a store do. Over any program.
-/
set_option linter.unusedSimpArgs false
namespace Go.Proofs.YtidihaecgmbhpabDoor
open Go.MapKept

/-- A block of which no cell is a string's. -/
def Cln (w : World) (b : Nat) : Prop := ∃ cs t, w.heap[b]? = some (.cells cs t (0, 0))

theorem Cln.lt {w : World} {b : Nat} (h : Cln w b) : b < w.heap.size := by
  obtain ⟨cs, t, h⟩ := h
  exact (Array.getElem?_eq_some_iff.1 h).1

theorem run_equalIn_ptr {P : Program} {w : World} (d : Nat) {tp te : TypeId} {j : TypeInfo} {a b : Addr} (hp : P.underlying tp = some (.pointer te)) (hte : P.info? te = some j) (hsz : j.size ≠ 0) (ha : Cln w a.block) (hb : Cln w b.block) :
    (Op.equalIn (d + 1) tp (.pointer (some a)) (.pointer (some b))).run P w = .ok (decide (a = b)) w := by
  by_cases h : a = b
  · subst h
    simp [Op.equalIn, run_underlying hp, sizeOf, typeInfo, hte, hsz, run_sameAddr_same]
  · obtain ⟨ca, ta, ha⟩ := ha
    obtain ⟨cb, tb, hb⟩ := hb
    simp [Op.equalIn, run_underlying hp, sizeOf, typeInfo, hte, hsz, run_sameAddr_other w h ha hb, h]

/-- What is asked of a set's keys. -/
structure Keys (P : Program) (mt kt et : TypeId) {κ : Type} [DecidableEq κ] (kv : κ → Value) (Good : World → κ → Prop) : Prop where
  und : P.underlying mt = some (.map kt et)
  st : ∃ fs, P.underlying kt = some (.struct fs)
  zero : ∀ w : World, (zeroValue et).run P w = .ok (.agg #[]) w
  check : ∀ (w : World) (em : Bool) (x : κ), (Instr.checkKey em 10000 kt (kv x)).run P w = .ok () w
  eq : ∀ (w : World) (x y : κ), Good w x → Good w y → (Op.equal kt (kv x) (kv y)).run P w = .ok (decide (x = y)) w

/-- A block that holds a set. -/
def SetIs {κ : Type} (w : World) (b : Nat) (kv : κ → Value) (L : List κ) : Prop :=
  ∃ es clock, w.heap[b]? = some (.map es clock) ∧ es.toList.map (·.key) = L.map kv ∧ ∀ e ∈ es.toList, e.val = .agg #[]

theorem SetIs.lt {κ : Type} {w : World} {b : Nat} {kv : κ → Value} {L : List κ} (h : SetIs w b kv L) : b < w.heap.size := by
  obtain ⟨es, c, h, _⟩ := h
  exact (Array.getElem?_eq_some_iff.1 h).1

theorem find_asking {P : Program} {mt kt et : TypeId} {κ : Type} [DecidableEq κ] {kv : κ → Value} {Good : World → κ → Prop} (K : Keys P mt kt et kv Good) (w : World) (x : κ) (hx : Good w x) :
    ∀ (L : List κ) (es : List MapEntry) (i : Nat), es.map (·.key) = L.map kv → (∀ e ∈ es, e.val = .agg #[]) → (∀ y ∈ L, Good w y) →
      (x ∈ L ∧ ∃ j, (Instr.findAsking kt (kv x) es i).run P w = .ok (some (j, .agg #[])) w) ∨ (x ∉ L ∧ (Instr.findAsking kt (kv x) es i).run P w = .ok none w)
  | [], es, i, h, _, _ => by
    have : es = [] := by simpa using h
    subst this
    exact .inr ⟨by simp, rfl⟩
  | y :: L, [], i, h, _, _ => by simp at h
  | y :: L, e :: es, i, h, hv, hg => by
    simp only [List.map_cons, List.cons.injEq] at h
    have hq := K.eq w x y hx (hg y (by simp))
    rw [← h.1] at hq
    by_cases hxy : x = y
    · refine .inl ⟨by simp [hxy], i, ?_⟩
      rw [Instr.findAsking]
      simp [hq, decide_eq_true hxy, hv e (by simp)]
    · rcases find_asking K w x hx L es (i + 1) h.2 (fun e he => hv e (by simp [he])) (fun y hy => hg y (by simp [hy])) with ⟨h1, j, h2⟩ | ⟨h1, h2⟩
      · refine .inl ⟨by simp [h1], j, ?_⟩
        rw [Instr.findAsking]
        simp [hq, hxy, h2]
      · refine .inr ⟨by simp [hxy, h1], ?_⟩
        rw [Instr.findAsking]
        simp [hq, hxy, h2]

theorem find_set {P : Program} {mt kt et : TypeId} {κ : Type} [DecidableEq κ] {kv : κ → Value} {Good : World → κ → Prop} (K : Keys P mt kt et kv Good) (w : World) (x : κ) (hx : Good w x)
    (L : List κ) (es : List MapEntry) (h : es.map (·.key) = L.map kv) (hv : ∀ e ∈ es, e.val = .agg #[]) (hg : ∀ y ∈ L, Good w y) :
    (x ∈ L ∧ ∃ j, (Instr.findKey kt (kv x) es).run P w = .ok (some (j, .agg #[])) w) ∨ (x ∉ L ∧ (Instr.findKey kt (kv x) es).run P w = .ok none w) := by
  obtain ⟨fs, hs⟩ := K.st
  have hf := find_asking K w x hx L es 0 h hv hg
  have e : (Instr.findKey kt (kv x) es).run P w = (Instr.findAsking kt (kv x) es 0).run P w := by
    simp only [Instr.findKey, Sem.run_bind, run_underlying hs, Result.andThen]
    cases es with
    | nil => rfl
    | cons e es =>
      have : Instr.findNow (.struct fs) (kv x) (e :: es) 0 = none := by
        simp [Instr.findNow, Instr.sameNow]
      rw [this]
  rw [e]
  exact hf

/-- 'v, ok := m[k]'. -/
theorem run_look {P : Program} {mt kt et : TypeId} {κ : Type} [DecidableEq κ] {kv : κ → Value} {Good : World → κ → Prop} (K : Keys P mt kt et kv Good) {w : World} {b : Nat} {L : List κ} (h : SetIs w b kv L) (hg : ∀ y ∈ L, Good w y) (x : κ) (hx : Good w x) :
    (Instr.lookup mt (.map (some b)) (kv x) true).run P w = .ok (.tuple #[.agg #[], .bool (decide (x ∈ L))]) w := by
  obtain ⟨es, c, h1, h2, h3⟩ := h
  rcases find_set K w x hx L es.toList h2 h3 hg with ⟨g1, j, g2⟩ | ⟨g1, g2⟩
  · simp [Instr.lookup, run_underlying K.und, MapKept.run_getObj_map h1, K.check, g2, Result.andThen, g1]
  · simp [Instr.lookup, run_underlying K.und, MapKept.run_getObj_map h1, K.check, g2, Result.andThen, g1, K.zero]

/-- The world behind the store of a key that was not there. -/
def stored {κ : Type} (w : World) (b : Nat) (kv : κ → Value) (x : κ) : World :=
  match w.heap[b]? with
  | some (.map es clock) => { w with heap := w.heap.setIfInBounds b (.map (es.push { key := kv x, val := .agg #[], born := clock }) (clock + 1)) }
  | _ => w

/-- 'm[k] = struct{}{}', of a key that isn't there. -/
theorem run_store {P : Program} {mt kt et : TypeId} {κ : Type} [DecidableEq κ] {kv : κ → Value} {Good : World → κ → Prop} (K : Keys P mt kt et kv Good) {w : World} {b : Nat} {L : List κ} (h : SetIs w b kv L) (hg : ∀ y ∈ L, Good w y) (x : κ) (hx : Good w x) (hn : x ∉ L) :
    (Instr.mapUpdate mt (.map (some b)) (kv x) (.agg #[])).run P w = .ok () (stored w b kv x) := by
  obtain ⟨es, c, h1, h2, h3⟩ := h
  rcases find_set K w x hx L es.toList h2 h3 hg with ⟨g1, j, g2⟩ | ⟨g1, g2⟩
  · exact absurd g1 hn
  · simp [Instr.mapUpdate, run_underlying K.und, MapKept.run_getObj_map h1, K.check, g2, MapKept.run_setObj_map _ h1, Result.andThen, stored, h1]

theorem stored_set {κ : Type} {w : World} {b : Nat} {kv : κ → Value} {L : List κ} (h : SetIs w b kv L) (x : κ) : SetIs (stored w b kv x) b kv (L ++ [x]) := by
  obtain ⟨es, c, h1, h2, h3⟩ := h
  refine ⟨es.push { key := kv x, val := .agg #[], born := c }, c + 1, ?_, ?_, ?_⟩
  · simp only [stored, h1]
    exact (heap_set h1).1
  · simp [h2]
  · intro e he
    simp only [Array.toList_push, List.mem_append, List.mem_singleton] at he
    rcases he with he | rfl
    · exact h3 e he
    · rfl

end Go.Proofs.YtidihaecgmbhpabDoor
