/-
  VTree, VRows, VBelow, VDeep, VDeepW.
-/
import Derived.Deep.AppendLies
import Derived.Test.YtidihaecgmbhpabDoorM4
import Derived.Test.YtidihaecgmbhpabDoorM9
/-
  Trees in memory with the places of their kids; rows of kids, each told by its place; which rows are met. No walk.
-/
set_option linter.unusedSimpArgs false
namespace Go.Proofs.YtidihaecgmbhpabDoor
open Go.RowKit Q

/-- A tree and where its kids lie. -/
inductive A where
  | mk (k : Int) (n : Wd) (b o cap : Nat) (l : List A)

namespace A
def kids : A → List A | .mk _ _ _ _ _ l => l
mutual
def t : A → T | .mk k n _ _ _ l => .mk k n (ts l)
def ts : List A → List T | [] => [] | a :: r => t a :: ts r
end
theorem ts_map (l : List A) : ts l = l.map t := by
  induction l with
  | nil => rfl
  | cons a l ih => simp [ts, ih]
theorem ind {P : A → Prop} (h : ∀ k n b o c l, (∀ a ∈ l, P a) → P (.mk k n b o c l)) : ∀ a, P a := by
  intro a
  refine A.rec (motive_1 := P) (motive_2 := fun l => ∀ a ∈ l, P a) ?_ ?_ ?_ a
  · exact fun k n b o c l hl => h k n b o c l hl
  · exact fun t ht => absurd ht List.not_mem_nil
  · intro a l ha hl t ht
    rcases List.mem_cons.1 ht with rfl | ht
    · exact ha
    · exact hl t ht
end A

/-- What three cells hold: a tree, in clean blocks below B. -/
inductive AIn (w : World) (B : Nat) : Value → Value → Value → A → Prop where
  | leaf (k : Int) (n : Wd) (ao : Option Addr) (cap : Nat) (hk : -9223372036854775808 ≤ k ∧ k ≤ 9223372036854775807) (hn : n.length ≤ 140737488355328) : AIn w B (.int .i64 k) (.string (strOfL n)) (.slice ao 0 cap) (.mk k n 0 0 0 [])
  | node (k : Int) (n : Wd) (l : List A) (b o cap : Nat) (C : Nat → Value × Value × Value) (hk : -9223372036854775808 ≤ k ∧ k ≤ 9223372036854775807) (hn : n.length ≤ 140737488355328) (hl : l.length ≤ 140737488355328) (hpos : l ≠ [])
      (h0 : ∀ i, i < l.length → w.cell? ⟨b, o + i * 3, none⟩ = some (C i).1 ∧ w.cell? ⟨b, o + i * 3 + 1, none⟩ = some (C i).2.1 ∧ w.cell? ⟨b, o + i * 3 + 2, none⟩ = some (C i).2.2)
      (hlt : Cln w b) (hB : b < B)
      (hr : ∀ (i : Nat) a, l[i]? = some a → AIn w B (C i).1 (C i).2.1 (C i).2.2 a) : AIn w B (.int .i64 k) (.string (strOfL n)) (.slice (some ⟨b, o, none⟩) l.length cap) (.mk k n b o cap l)

theorem AIn.of {w : World} {P : Nat → Prop} {c0 c1 c2 : Value} {t : T} (h : TIn w P c0 c1 c2 t) : ∃ a, AIn w w.heap.size c0 c1 c2 a ∧ a.t = t := by
  induction h with
  | leaf k n ao cap hk hn => exact ⟨_, .leaf k n ao cap hk hn, by simp [A.t, A.ts]⟩
  | node k n l b o cap C hk hn hl hP h0 hlt hr ih =>
    by_cases hpos : l = []
    · subst hpos
      exact ⟨_, .leaf k n (some ⟨b, o, none⟩) cap hk hn, by simp [A.t, A.ts]⟩
    · have hch : ∀ i : Nat, ∃ a, ∀ t, l[i]? = some t → AIn w w.heap.size (C i).1 (C i).2.1 (C i).2.2 a ∧ a.t = t := fun i => by
        cases hi : l[i]? with
        | none => exact ⟨.mk 0 [] 0 0 0 [], fun t ht => by cases ht⟩
        | some t => obtain ⟨a, h1, h2⟩ := ih i t hi; exact ⟨a, fun t' ht => by cases ht; exact ⟨h1, h2⟩⟩
      obtain ⟨f, hf⟩ := Classical.axiomOfChoice hch
      have hlen : ((List.range l.length).map f).length = l.length := by simp
      have := AIn.node (w := w) (B := w.heap.size) k n ((List.range l.length).map f) b o cap C hk hn (by rw [hlen]; exact hl) (by intro e; have := congrArg List.length e; rw [hlen] at this; exact hpos (List.length_eq_zero_iff.1 this)) (fun i hi => h0 i (by rw [hlen] at hi; exact hi)) hlt hlt.lt (fun i a ha => by
        have hi : i < l.length := by have := (List.getElem?_eq_some_iff.1 ha).1; rw [hlen] at this; exact this
        have e : a = f i := by simp [hi] at ha; exact ha.symm
        subst e
        exact (hf i _ (List.getElem?_eq_getElem hi)).1)
      rw [hlen] at this
      refine ⟨_, this, ?_⟩
      simp only [A.t, A.ts_map, T.mk.injEq, true_and]
      apply List.ext_getElem?
      intro i
      by_cases hi : i < l.length
      · rw [List.getElem?_eq_getElem hi]
        simp only [List.map_map, List.getElem?_map, List.getElem?_range hi, Option.map_some, Function.comp]
        rw [(hf i _ (List.getElem?_eq_getElem hi)).2]
      · rw [List.getElem?_eq_none (by rw [List.length_map, List.length_map, List.length_range]; omega), List.getElem?_eq_none (by omega)]

theorem AIn.mv {S : Nat → Prop} {w w' : World} {B : Nat} {c0 c1 c2 : Value} {a : A} (h : AIn w B c0 c1 c2 a) (hm : Mv S w w') (hS : ∀ x, S x → B ≤ x) : AIn w' B c0 c1 c2 a := by
  induction h with
  | leaf k n ao cap hk hn => exact .leaf k n ao cap hk hn
  | node k n l b o cap C hk hn hl hpos h0 hlt hB hr ih =>
    have hb : ¬ S b := fun e => by have := hS b e; omega
    exact .node k n l b o cap C hk hn hl hpos (fun i hi => ⟨cell_mv hm (h0 i hi).1 hb, cell_mv hm (h0 i hi).2.1 hb, cell_mv hm (h0 i hi).2.2 hb⟩)
      (by obtain ⟨cs, ty, hc⟩ := hlt; exact ⟨cs, ty, hm.heap hc hb⟩) hB (fun i t ht => ih i t ht)

/-- The cells tell the tree. -/
theorem AIn.det {w : World} {B : Nat} {c0 c1 c2 : Value} {a : A} (h : AIn w B c0 c1 c2 a) : ∀ {a' : A}, AIn w B c0 c1 c2 a' → a = a' := by
  induction h with
  | leaf k n ao cap hk hn =>
    intro a' h'
    generalize hx : Value.int IntKind.i64 k = x at h'
    generalize hy : Value.string (strOfL n) = y at h'
    generalize hz : Value.slice ao 0 cap = z at h'
    cases h' with
    | leaf k' n' ao' cap' =>
      cases hx
      have e : strOfL n = strOfL n' := by injection hy
      rw [strOfL_inj.1 e]
    | node k' n' l' b' o' cap' C' _ _ _ hpos' =>
      injection hz with _ e2 _
      exact absurd (List.length_eq_zero_iff.1 e2.symm) hpos'
  | node k n l b o cap C hk hn hl hpos h0 hlt hB hr ih =>
    intro a' h'
    generalize hx : Value.int IntKind.i64 k = x at h'
    generalize hy : Value.string (strOfL n) = y at h'
    generalize hz : Value.slice (some ⟨b, o, none⟩) l.length cap = z at h'
    cases h' with
    | leaf k' n' ao' cap' =>
      injection hz with _ e2 _
      exact absurd (List.length_eq_zero_iff.1 e2) hpos
    | node k' n' l' b' o' cap' C' hk' hn' hl' hpos' h0' hlt' hB' hr' =>
      cases hx
      have e : strOfL n = strOfL n' := by injection hy
      obtain rfl := strOfL_inj.1 e
      injection hz with e1 e2 e3
      injection e1 with e1
      injection e1 with e4 e5 _
      subst e4 e5 e3
      have : l = l' := by
        apply List.ext_getElem?
        intro i
        by_cases hi : i < l.length
        · have hi' : i < l'.length := by omega
          obtain ⟨p0, p1, p2⟩ := h0 i hi
          obtain ⟨q0, q1, q2⟩ := h0' i hi'
          rw [List.getElem?_eq_getElem hi, List.getElem?_eq_getElem hi']
          congr 1
          refine ih i _ (List.getElem?_eq_getElem hi) ?_
          have r := hr' i _ (List.getElem?_eq_getElem hi')
          rw [← Option.some.inj (p0.symm.trans q0), ← Option.some.inj (p1.symm.trans q1), ← Option.some.inj (p2.symm.trans q2)] at r
          exact r
        · rw [List.getElem?_eq_none (by omega), List.getElem?_eq_none (by omega)]
      rw [this]

/-- A row of kids, in memory. -/
structure ARow (w : World) (B b o : Nat) (l : List A) : Prop where
  pos : l ≠ []
  len : l.length ≤ 140737488355328
  cln : Cln w b
  lt : b < B
  at' : ∀ (i : Nat) a, l[i]? = some a → ∃ d0 d1 d2, w.cell? ⟨b, o + i * 3, none⟩ = some d0 ∧ w.cell? ⟨b, o + i * 3 + 1, none⟩ = some d1 ∧ w.cell? ⟨b, o + i * 3 + 2, none⟩ = some d2 ∧ AIn w B d0 d1 d2 a

theorem ARow.mv {S : Nat → Prop} {w w' : World} {B b o : Nat} {l : List A} (h : ARow w B b o l) (hm : Mv S w w') (hS : ∀ x, S x → B ≤ x) : ARow w' B b o l := by
  have hb : ¬ S b := fun e => by have := hS b e; have := h.lt; omega
  refine ⟨h.pos, h.len, ?_, h.lt, fun i a ha => ?_⟩
  · obtain ⟨cs, ty, hc⟩ := h.cln; exact ⟨cs, ty, hm.heap hc hb⟩
  · obtain ⟨d0, d1, d2, h0, h1, h2, h3⟩ := h.at' i a ha
    exact ⟨d0, d1, d2, cell_mv hm h0 hb, cell_mv hm h1 hb, cell_mv hm h2 hb, h3.mv hm hS⟩

theorem ARow.det {w : World} {B b o : Nat} {l l' : List A} (h : ARow w B b o l) (h' : ARow w B b o l') (hl : l.length = l'.length) : l = l' := by
  apply List.ext_getElem?
  intro i
  by_cases hi : i < l.length
  · have hi' : i < l'.length := by omega
    obtain ⟨d0, d1, d2, p0, p1, p2, p3⟩ := h.at' i _ (List.getElem?_eq_getElem hi)
    obtain ⟨e0, e1, e2, q0, q1, q2, q3⟩ := h'.at' i _ (List.getElem?_eq_getElem hi')
    rw [List.getElem?_eq_getElem hi, List.getElem?_eq_getElem hi']
    rw [← Option.some.inj (p0.symm.trans q0), ← Option.some.inj (p1.symm.trans q1), ← Option.some.inj (p2.symm.trans q2)] at q3
    rw [p3.det q3]
  · rw [List.getElem?_eq_none (by omega), List.getElem?_eq_none (by omega)]

/-- A tree's cells by their form; its kids' row, if there is one. -/
theorem AIn.form {w : World} {B : Nat} {c0 c1 c2 : Value} {k : Int} {n : Wd} {b o cap : Nat} {l : List A} (h : AIn w B c0 c1 c2 (.mk k n b o cap l)) :
    (-9223372036854775808 ≤ k ∧ k ≤ 9223372036854775807) ∧ n.length ≤ 140737488355328 ∧ c0 = .int .i64 k ∧ c1 = .string (strOfL n) ∧
      ((l = [] ∧ ∃ ao c, c2 = .slice ao 0 c) ∨ (c2 = .slice (some ⟨b, o, none⟩) l.length cap ∧ ARow w B b o l)) := by
  cases h with
  | leaf _ _ ao cap hk hn => exact ⟨hk, hn, rfl, rfl, .inl ⟨rfl, ao, _, rfl⟩⟩
  | node _ _ _ _ _ _ C hk hn hl hpos h0 hlt hB hr =>
    exact ⟨hk, hn, rfl, rfl, .inr ⟨rfl, hpos, hl, hlt, hB, fun i a ha => by
      obtain ⟨e0, e1, e2⟩ := h0 i (List.getElem?_eq_some_iff.1 ha).1
      exact ⟨_, _, _, e0, e1, e2, hr i a ha⟩⟩⟩

/-- A row of kids as it is met. -/
structure E where
  b : Nat
  o : Nat
  cap : Nat
  l : List A

def E.key (e : E) : Nat × Nat × Nat := (e.b, e.o, e.l.length)
def E.val (e : E) : Value := .slice (some ⟨e.b, e.o, none⟩) e.l.length e.cap
def kvRow (x : Nat × Nat × Nat) : Value := .agg #[.pointer (some ⟨x.1, x.2.1, none⟩), .int .i64 (x.2.2 : Int)]

/-- One more row, if it isn't there. -/
def addE (L : List E) (e : E) : List E := if e.key ∈ L.map E.key then L else L ++ [e]
def addA (L : List E) : A → List E
  | .mk _ _ b o cap l => if l = [] then L else addE L ⟨b, o, cap, l⟩
def addL (L : List E) (l : List A) : List E := l.foldl addA L

/-- Rows that are gone over, as the program keeps them. -/
structure RowsIs (w : World) (B g m : Nat) (v : Value) (L : List E) : Prop where
  blk : w.heap[g]? = some (.cells #[.map (some m), v] 82 (0, 0))
  set : SetIs w m kvRow (L.map E.key)
  row : w.ownsRow B 22 1 v L.length (L.map E.val)
  ent : ∀ e ∈ L, ARow w B e.b e.o e.l
  hg : B ≤ g
  hm : B ≤ m

/-- The blocks that are its own. -/
def Fp (g m : Nat) (v : Value) (x : Nat) : Prop := x = g ∨ x = m ∨ v.ownBlock = some x

theorem RowsIs.fp {w : World} {B g m : Nat} {v : Value} {L : List E} (h : RowsIs w B g m v L) {x : Nat} (hx : Fp g m v x) : B ≤ x ∧ x < w.heap.size := by
  rcases hx with rfl | rfl | hx
  · exact ⟨h.hg, lt_of_block h.blk⟩
  · exact ⟨h.hm, h.set.lt⟩
  · rcases h.row.2 with ⟨rfl, _⟩ | ⟨g', cap, cur, rfl, hb, hgg, _⟩
    · cases hx
    · obtain rfl : g' = x := by injection hx
      exact ⟨hb, lt_of_block hgg⟩

theorem SetIs.mv {κ : Type} {S : Nat → Prop} {w w' : World} {b : Nat} {kv : κ → Value} {L : List κ} (h : SetIs w b kv L) (hm : Mv S w w') (hS : ¬ S b) : SetIs w' b kv L := by
  obtain ⟨es, c, h1, h2⟩ := h
  exact ⟨es, c, hm.heap h1 hS, h2⟩

theorem row_mv {S : Nat → Prop} {w w' : World} {base : Nat} {e : TypeId} {size : Nat} {v : Value} {n : Nat} {xs : List Value} (hr : w.ownsRow base e size v n xs) (h : Mv S w w') (hS : ∀ x, v.ownBlock = some x → ¬ S x) : w'.ownsRow base e size v n xs := by
  refine ⟨hr.1, ?_⟩
  rcases hr.2 with hn' | ⟨g, cap, cur, rfl, hb, hgg, rest⟩
  · exact .inl hn'
  · exact .inr ⟨g, cap, cur, rfl, hb, h.heap hgg (hS g rfl), rest⟩

theorem RowsIs.mv {S : Nat → Prop} {w w' : World} {B g m : Nat} {v : Value} {L : List E} (h : RowsIs w B g m v L) (hm : Mv S w w') (h1 : ∀ x, Fp g m v x → ¬ S x) (h2 : ∀ x, S x → B ≤ x) : RowsIs w' B g m v L :=
  ⟨hm.heap h.blk (h1 g (.inl rfl)), h.set.mv hm (h1 m (.inr (.inl rfl))), row_mv h.row hm (fun x hx => h1 x (.inr (.inr hx))), fun e he => (h.ent e he).mv hm h2, h.hg, h.hm⟩
theorem RowsIs.nu {w w' : World} {B g m : Nat} {v : Value} {L : List E} (h : RowsIs w B g m v L) (hm : Nu w w') : RowsIs w' B g m v L := h.mv hm (fun _ _ h => h) (fun _ h => h.elim)

/-- A row's key may be asked for. -/
def GoodK (w : World) (x : Nat × Nat × Nat) : Prop := Cln w x.1

end Go.Proofs.YtidihaecgmbhpabDoor
/-
  What the program's rows of kids do: new ones, one more, those below.
-/
set_option linter.unusedSimpArgs false
namespace Go.Proofs.YtidihaecgmbhpabDoor
open Go.RowKit Q

theorem eq_row (w : World) (a b : Addr) (m n : Int) (ha : Cln w a.block) (hb : Cln w b.block) :
    (Op.equal 106 (.agg #[.pointer (some a), .int .i64 m]) (.agg #[.pointer (some b), .int .i64 n])).run Tryd.prog w = .ok (decide (a = b) && decide (m = n)) w := by
  have hS : Tryd.prog.underlying 106 = some (.struct (Tryd.prog.fieldsOf 106)) := by kernel_rfl
  have hp : Tryd.prog.stoodInHeld 106 = false := by kernel_rfl
  obtain ⟨j, hj, hz⟩ : ∃ j, Tryd.prog.info? 24 = some j ∧ j.size ≠ 0 := by
    have : (Tryd.prog.info? 24).map (·.size) = some 3 := by kernel_rfl
    cases h : Tryd.prog.info? 24 with
    | none => rw [h] at this; simp at this
    | some j => rw [h] at this; simp at this; exact ⟨j, rfl, by omega⟩
  have hq := run_equalIn_ptr (P := Tryd.prog) 9998 Tryd.underlying49 hj hz ha hb
  unfold Op.equal Op.maxDepth
  rw [show (10000 : Nat) = 9999 + 1 from rfl, run_equalIn_agg w 9999 106 _ _ hS hp]
  simp only [Program.fieldsOf, Tryd.underlying106]
  go_simp
  by_cases h1 : a = b <;> by_cases h2 : m = n <;> simp [h1, h2]

theorem keysRow : Keys Tryd.prog 80 106 74 kvRow GoodK where
  und := Tryd.underlying80
  st := ⟨_, Tryd.underlying106⟩
  zero := fun w => by kernel_rfl
  check := fun w em x => by unfold kvRow; kernel_rfl
  eq := fun w x y hx hy => by
    obtain ⟨x1, x2, x3⟩ := x
    obtain ⟨y1, y2, y3⟩ := y
    unfold kvRow
    rw [eq_row w ⟨x1, x2, none⟩ ⟨y1, y2, none⟩ x3 y3 hx hy]
    congr 1
    rw [Bool.eq_iff_iff]
    simp
    omega

theorem look_no {P : Program} {mt kt et : TypeId} {κ : Type} [DecidableEq κ] {kv : κ → Value} {Good : World → κ → Prop} (K : Keys P mt kt et kv Good) {w : World} {b : Nat} {L : List κ} (h : SetIs w b kv L) (hg : ∀ y ∈ L, Good w y) (x : κ) (hx : Good w x) (hn : x ∉ L) :
    (Instr.lookup mt (.map (some b)) (kv x) true).run P w = .ok (.tuple #[.agg #[], .bool false]) w := by
  rw [run_look K h hg x hx]
  simp [hn]
theorem look_yes {P : Program} {mt kt et : TypeId} {κ : Type} [DecidableEq κ] {kv : κ → Value} {Good : World → κ → Prop} (K : Keys P mt kt et kv Good) {w : World} {b : Nat} {L : List κ} (h : SetIs w b kv L) (hg : ∀ y ∈ L, Good w y) (x : κ) (hx : Good w x) (hn : x ∈ L) :
    (Instr.lookup mt (.map (some b)) (kv x) true).run P w = .ok (.tuple #[.agg #[], .bool true]) w := by
  rw [run_look K h hg x hx]
  simp [hn]

theorem row_nu0 {w w' : World} {base : Nat} {e : TypeId} {size : Nat} {v : Value} {n : Nat} {xs : List Value} (hr : w.ownsRow base e size v n xs) (h : Nu w w') : w'.ownsRow base e size v n xs := row_mv hr h (fun _ _ h => h)

theorem new_rows (w : World) (B : Nat) (hB : B ≤ w.heap.size) : RowsIs ((w.alloc (.map #[] 0)).alloc (.cells #[.map (some w.heap.size), .slice none 0 0] 82)) B (w.heap.size + 1) w.heap.size (.slice none 0 0) [] := by
  have h1 := heap_alloc_new (w.alloc (.map #[] 0)) (.cells #[.map (some w.heap.size), .slice none 0 0] 82)
  rw [show (w.alloc (.map #[] 0)).heap.size = w.heap.size + 1 by simp] at h1
  have h2 := (Mv.alloc (fun _ => False) (w.alloc (.map #[] 0)) (.cells #[.map (some w.heap.size), .slice none 0 0] 82)).heap (heap_alloc_new w (.map #[] 0)) id
  exact ⟨h1, ⟨#[], 0, h2, rfl, fun e he => by simp at he⟩, World.ownsRow_nil _ _ _ _, (fun e he => absurd he List.not_mem_nil), by omega, hB⟩

set_option maxHeartbeats 1000000 in
theorem newRows_any (w : World) : Calls Tryd.prog 37 #[] w fun e w' => e = .returned (.pointer (some ⟨w.heap.size + 1, 0, none⟩)) ∧ w' = ((w.alloc (.map #[] 0)).alloc (.cells #[.map (some w.heap.size), .slice none 0 0] 82)) := by
  have hmm := @run_makeMap Tryd.prog
  go_enter Tryd.func37, Tryd.ntmps37
  go_wp2
  go_ret
  simp

theorem stored_mv {κ : Type} (w : World) (b : Nat) (kv : κ → Value) (x : κ) : Mv (· = b) w (stored w b kv x) := by
  unfold stored
  split
  · exact ⟨rfl, rfl, rfl, by simp, fun k _ hn => by
      show (w.heap.setIfInBounds b _)[k]? = _
      rw [Array.getElem?_setIfInBounds_ne (fun e => hn e.symm)]⟩
  · exact Mv.refl _ _

/-- What stands behind one more row. -/
theorem rows_added {W2 W5 : World} {B g m : Nat} {v v' : Value} {L : List E} {e : E} {O : Obj} (h : RowsIs W2 B g m v L) (he : ARow W2 B e.b e.o e.l)
    (hg : ((stored W2.drew m kvRow e.key).alloc O).grownBy W5 v.ownBlock) (hr : W5.ownsRow B 22 1 v' (L.length + 1) (L.map E.val ++ [e.val])) (ho : v.ownBlock = v'.ownBlock ∨ v'.ownBlock = some (stored W2.drew m kvRow e.key).heap.size ∨ v'.ownBlock = some ((stored W2.drew m kvRow e.key).alloc O).heap.size) :
    Mv (Fp g m v) W2 (W5.setCell ⟨g, 1, none⟩ v') ∧ RowsIs (W5.setCell ⟨g, 1, none⟩ v') B g m v' (L ++ [e]) := by
  have hgm : g ≠ m := fun e => by
    obtain ⟨es, c, h1, _⟩ := h.set
    rw [← e, h.blk] at h1
    cases h1
  have hgv : ∀ x, v.ownBlock = some x → g ≠ x ∧ m ≠ x := fun x hx => by
    rcases h.row.2 with ⟨rfl, _⟩ | ⟨g', cap, cur, rfl, hb, hgg, _⟩
    · cases hx
    · obtain rfl : g' = x := by injection hx
      refine ⟨fun e => ?_, fun e => ?_⟩
      · rw [← e, h.blk] at hgg
        cases hgg
      · obtain ⟨es, c, h1, _⟩ := h.set
        rw [e, hgg] at h1
        cases h1
  have m1 : Mv (Fp g m v) W2 (stored W2.drew m kvRow e.key) := ((Mv.drew _ W2).trans (stored_mv W2.drew m kvRow e.key) (fun x hx => .inl (.inr (.inl hx))))
  have m2 : Mv (Fp g m v) W2 ((stored W2.drew m kvRow e.key).alloc O) := m1.trans (Mv.alloc (fun _ => False) _ _) (fun _ h => h.elim)
  have m3 : Mv (Fp g m v) W2 W5 := m2.trans (Mv.grown hg) (fun x hx => .inl (.inr (.inr hx)))
  have m4 : Mv (Fp g m v) W2 (W5.setCell ⟨g, 1, none⟩ v') := m3.trans (Mv.setCell W5 ⟨g, 1, none⟩ v') (fun x hx => .inl (.inl hx))
  have hFB : ∀ x, Fp g m v x → B ≤ x := fun x hx => (h.fp hx).1
  have b5 : W5.heap[g]? = some (.cells #[.map (some m), v] 82 (0, 0)) := by
    have b2 : (stored W2.drew m kvRow e.key).heap[g]? = _ := (stored_mv W2.drew m kvRow e.key).heap h.blk hgm
    have b3 := (Mv.alloc (fun _ => False) (stored W2.drew m kvRow e.key) O).heap b2 id
    exact (Mv.grown hg).heap b3 (fun hx => (hgv g hx).1 rfl)
  have s5 : SetIs W5 m kvRow (L.map E.key ++ [e.key]) := by
    have s1 := stored_set (w := W2.drew) (h.set.mv (Mv.drew (fun _ => False) W2) id) e.key
    have s2 := s1.mv (Mv.alloc (fun _ => False) (stored W2.drew m kvRow e.key) O) id
    exact s2.mv (Mv.grown hg) (fun hx => (hgv m hx).2 rfl)
  have hlt2 : W2.heap.size ≤ (stored W2.drew m kvRow e.key).heap.size := m1.size
  have hgv' : v'.ownBlock ≠ some g := fun hx => by
    rcases ho with h1 | h1 | h1
    · exact (hgv g (h1.trans hx)).1 rfl
    · have e0 : (stored W2.drew m kvRow e.key).heap.size = g := by rw [hx] at h1; exact (Option.some.inj h1).symm
      have := lt_of_block h.blk
      omega
    · have e0 : ((stored W2.drew m kvRow e.key).alloc O).heap.size = g := by rw [hx] at h1; exact (Option.some.inj h1).symm
      have := lt_of_block h.blk
      simp at e0
      omega
  refine ⟨m4, ?_, ?_, ?_, ?_, h.hg, h.hm⟩
  · rw [setCell_blk b5]; rfl
  · rw [List.map_append]
    exact s5.mv (Mv.setCell W5 ⟨g, 1, none⟩ v') (fun e => hgm e.symm)
  · rw [List.map_append, List.length_append]
    exact row_mv hr (Mv.setCell W5 ⟨g, 1, none⟩ v') (fun x hx e => hgv' (by rw [hx, e]))
  · intro e' he'
    rcases List.mem_append.1 he' with h1 | h1
    · exact (h.ent e' h1).mv m4 hFB
    · obtain rfl := List.mem_singleton.1 h1
      exact he.mv m4 hFB

set_option maxHeartbeats 4000000 in
theorem add_any (w : World) (B g m : Nat) (v : Value) (L : List E) (h : RowsIs w B g m v L) (e : E) (he : ARow w B e.b e.o e.l) (hlen : L.length ≤ 1000000) (hn : e.key ∉ L.map E.key) :
    Calls Tryd.prog 38 #[.pointer (some ⟨g, 0, none⟩), e.val] w fun r w' => r = .returned (.tuple #[]) ∧ Mv (Fp g m v) w w' ∧ ∃ v', RowsIs w' B g m v' (L ++ [e]) ∧ (v'.ownBlock = v.ownBlock ∨ ∃ x, v'.ownBlock = some x ∧ w.heap.size ≤ x) := by
  obtain ⟨eb, eo, ec, el⟩ := e
  obtain ⟨n, hN⟩ : ∃ n : Nat, el.length = n := ⟨_, rfl⟩
  have hpos : ¬ (n : Int) = 0 := by
    have := he.pos
    intro e0
    have : el.length = 0 := by omega
    exact absurd (List.length_eq_zero_iff.1 this) he.pos
  have hn0 : 0 < n := by omega
  have hle : n ≤ 140737488355328 := by have := he.len; simp only at this; omega
  unfold E.val
  simp only
  rw [hN]
  have HH := hid h
  have HE := hid he
  go_enter Tryd.func38, Tryd.ntmps38
  go_upto_region 2 with fail
  have hb1 := heap_alloc_new w (.cells #[.pointer (some ⟨eb, eo, none⟩), .int .i64 (n : Int)] 106)
  have hM1 : Nu w (w.alloc (.cells #[.pointer (some ⟨eb, eo, none⟩), .int .i64 (n : Int)] 106)) := Mv.alloc _ _ _
  generalize hW : World.alloc _ _ = W1 at hb1 hM1 ⊢
  clear hW
  have HR1 := hid (HH.out.nu hM1)
  have HE1 := hid (HE.out.mv hM1 (fun _ h => h.elim))
  have HM1 := hid hM1
  have k0 : W1.cell? ⟨g, 0, none⟩ = some (.map (some m)) := by rw [cell_blk HR1.out.blk]; rfl
  have x0 : W1.cell? ⟨w.heap.size, 0, none⟩ = some (.pointer (some ⟨eb, eo, none⟩)) := by rw [cell_blk hb1]; rfl
  have x1 : W1.cell? ⟨w.heap.size, 1, none⟩ = some (.int .i64 (n : Int)) := by rw [cell_blk hb1]; rfl
  have hgood : ∀ W, Nu W1 W → (∀ y ∈ L.map E.key, GoodK W y) ∧ GoodK W (eb, eo, n) := fun W hW => by
    refine ⟨fun y hy => ?_, ?_⟩
    · obtain ⟨e', he', rfl⟩ := List.mem_map.1 hy
      exact ((HR1.out.ent e' he').mv hW (fun _ h => h.elim)).cln
    · exact (HE1.out.mv hW (fun _ h => h.elim)).cln
  have hkey : (eb, eo, n) ∉ L.map E.key := by rw [← hN]; exact hn
  have HL : Hid (∀ W, Nu W1 W → (Instr.lookup 80 (.map (some m)) (.agg #[.pointer (some ⟨eb, eo, none⟩), .int .i64 (n : Int)]) true).run Tryd.prog W = .ok (.tuple #[.agg #[], .bool false]) W) := fun W hW =>
    look_no keysRow (HR1.out.nu hW).set (hgood W hW).1 (eb, eo, n) (hgood W hW).2 hkey
  have HS : Hid (∀ W, Nu W1 W → (Instr.mapUpdate 80 (.map (some m)) (.agg #[.pointer (some ⟨eb, eo, none⟩), .int .i64 (n : Int)]) (.agg #[])).run Tryd.prog W = .ok () (stored W m kvRow (eb, eo, n))) := fun W hW =>
    run_store keysRow (HR1.out.nu hW).set (hgood W hW).1 (eb, eo, n) (hgood W hW).2 hkey
  have hlt1 : w.heap.size < W1.heap.size := lt_of_block hb1
  clear hgood hb1 hM1 he h hn hkey
  have l1 := HL.out W1.drew (Mv.drew _ _)
  have l2 := HL.out ((W1.alloc (.cells #[] 74)).drew) (mv0 (Mv.alloc _ _ _) (Mv.drew _ _))
  have hg1 : g < W1.heap.size := lt_of_block HR1.out.blk
  obtain ⟨i0, hi0⟩ := info_parts (P := Tryd.prog) (e := 22) (z := .slice none 0 0) (size := 1) (bytes := 24) (by kernel_rfl)
  have HI0 := hid hi0
  clear hi0
  go_region
  all_goals
    clear l1 l2
    have hM2 : Nu W1 (W1.alloc (.cells #[] 74)).drew := mv0 (Mv.alloc _ _ _) (Mv.drew _ _)
    generalize hW : World.drew _ = W2 at hM2 ⊢
    clear hW
    replace k0 := cell_mv hM2 k0 id
    replace x0 := cell_mv hM2 x0 id
    replace x1 := cell_mv hM2 x1 id
    have HR2 := hid (HR1.out.nu hM2)
    have HE2 := hid (HE1.out.mv hM2 (fun _ h => h.elim))
    have HM2 := hid hM2
    have hs2 := HS.out W2.drew (mv0 hM2 (Mv.drew _ _))
    have hg2 : g < W2.heap.size := lt_of_block HR2.out.blk
    clear hg1 hM2
    go_upto_region 4 with fail
    go_region
    have hm3 := stored_mv W2.drew m kvRow (eb, eo, n)
    have hgm : g ≠ m := fun e => by
      obtain ⟨es, c, h1, _⟩ := HR2.out.set
      rw [← e, HR2.out.blk] at h1
      cases h1
    have hb3 := hm3.heap (k := g) HR2.out.blk hgm
    have hvm : ∀ x, v.ownBlock = some x → x ≠ m := fun x hx e => by
      rcases HR2.out.row.2 with ⟨rfl, _⟩ | ⟨g', cap, cur, rfl, hb, hgg, _⟩
      · cases hx
      · obtain rfl : g' = x := by injection hx
        obtain ⟨es, c, h1, _⟩ := HR2.out.set
        rw [← e, hgg] at h1
        cases h1
    have hr3 := row_mv (row_nu0 HR2.out.row (Mv.drew _ W2)) hm3 hvm
    have hs3 : W2.heap.size ≤ (stored W2.drew m kvRow (eb, eo, n)).heap.size := hm3.size
    generalize hW3 : stored W2.drew m kvRow (eb, eo, n) = W3 at hm3 hb3 hr3 hs3 ⊢
    have HW3 : Hid (stored W2.drew m kvRow (E.key ⟨eb, eo, ec, el⟩) = W3) := by
      show _ = _
      unfold E.key
      simp only [hN]
      exact hW3
    have k1 : W3.cell? ⟨g, 1, none⟩ = some v := by rw [cell_blk hb3]; rfl
    have f1 : W3.frozen? ⟨g, 1, none⟩ = false := free_blk hb3 1
    have hg3 : g < W3.heap.size := lt_of_block hb3
    have HB3 := hid hb3
    have HR3 := hid hr3
    have HBB : Hid (B ≤ W3.heap.size) := by have h8 := HR2.out.hg; show _ ≤ _; omega
    have HVG : Hid (∀ x, v.ownBlock = some x → g ≠ x) := fun x hx e => by
      rcases HR2.out.row.2 with ⟨rfl, _⟩ | ⟨g', cap, cur, rfl, hb, hgg, _⟩
      · cases hx
      · obtain rfl : g' = x := by injection hx
        rw [← e, HR2.out.blk] at hgg
        cases hgg
    clear hm3 hb3 hr3 hs3 hW3 hvm k0 x0 x1 hs2 hg2 hlt1
    have HLen := hid hlen
    clear hlen hpos hn0 hle
    go_wp2_with (at_builtin; refine wpList_append_lies _ rfl _ _ _ rfl B 22 i0 (.slice none 0 0) 1 24 Tryd.underlying65 HI0.out.1 HI0.out.2.1 HI0.out.2.2.1 HI0.out.2.2.2 rfl (by omega) v L.length (L.map E.val) rfl (HR3.out.alloc _) ⟨W3.heap.size, 0, none⟩ 1 1 [.slice (some ⟨eb, eo, none⟩) n ec] rfl rfl (World.news_of_block (heap_alloc_new W3 _)) (by simp [Value.oneCell']) (by decide) (by have := HLen.out; unfold maxLen; omega) (by have := HLen.out; omega) (by have := HBB.out; simp; omega) (W3.heap.size + 1) (by simp) ?_; intro g5 cap5 w5 hown hgrow hat hg5; have hb5 := (Mv.grown hgrow).heap ((Mv.alloc (fun _ => False) W3 _).heap HB3.out id) (fun hx => HVG.out g hx rfl); have k5 : w5.cell? ⟨g, 1, none⟩ = some v := (by rw [cell_blk hb5]; rfl); have f5 : w5.frozen? ⟨g, 1, none⟩ = false := free_blk hb5 1; have HO := hid hown; have HGr := hid hgrow; have HAt := hid hat; clear hown hgrow hat hb5)
    go_end0
    have hgr := HGr.out
    rw [← HW3.out] at hgr
    have hown := HO.out
    obtain ⟨q1, q2⟩ := rows_added (e := ⟨eb, eo, ec, el⟩) (v' := .slice (some ⟨g5, 0, none⟩) (L.length + 1) cap5) HR2.out HE2.out hgr (by unfold E.val; simp only [hN]; exact hown) (by
      rcases HAt.out with h9 | h9
      · exact .inl (by rw [h9]; rfl)
      · refine .inr (.inr ?_)
        rw [HW3.out, h9]
        simp [Value.ownBlock])
    refine ⟨rfl, (mv0 HM1.out HM2.out |>.mono (fun _ h => h.elim)).trans q1 (fun _ h => .inl h), _, q2, ?_⟩
    rcases HAt.out with h9 | h9
    · exact .inl (by rw [h9]; rfl)
    · refine .inr ⟨g5, rfl, ?_⟩
      have h1 := HM1.out.size
      have h2 := HM2.out.size
      have h3 := (stored_mv W2.drew m kvRow (E.key ⟨eb, eo, ec, el⟩)).size
      rw [HW3.out] at h3
      have h4 : W2.drew.heap.size = W2.heap.size := rfl
      omega

end Go.Proofs.YtidihaecgmbhpabDoor
/-
  Rows below rows: laws; what the program's add and addBelow do with a tree's kids, with those of a row's.
-/
set_option linter.unusedSimpArgs false
namespace Go.Proofs.YtidihaecgmbhpabDoor
open Go.RowKit Q

/-- What a row is there for. -/
def A.key : A → Nat × Nat × Nat | .mk _ _ b o _ l => (b, o, l.length)
def A.ent : A → E | .mk _ _ b o cap l => ⟨b, o, cap, l⟩

theorem addA_def (L : List E) (a : A) : addA L a = if a.kids = [] then L else addE L a.ent := by cases a; rfl
theorem ent_l (a : A) : a.ent.l = a.kids := by cases a; rfl
theorem ent_key (a : A) : a.ent.key = a.key := by cases a; rfl

theorem addE_pre (L : List E) (e : E) : L <+: addE L e := by
  unfold addE
  split
  · exact List.prefix_refl _
  · exact List.prefix_append _ _
theorem addA_pre (L : List E) (a : A) : L <+: addA L a := by
  rw [addA_def]
  split
  · exact List.prefix_refl _
  · exact addE_pre _ _
theorem addL_pre (L : List E) (l : List A) : L <+: addL L l := by
  induction l generalizing L with
  | nil => exact List.prefix_refl _
  | cons a l ih => exact (addA_pre L a).trans (ih _)

theorem addA_org {L : List E} {a : A} {e : E} (h : e ∈ addA L a) : e ∈ L ∨ (a.kids ≠ [] ∧ e = a.ent) := by
  rw [addA_def] at h
  split at h
  · exact .inl h
  · rename_i hk
    unfold addE at h
    split at h
    · exact .inl h
    · rcases List.mem_append.1 h with h | h
      · exact .inl h
      · exact .inr ⟨hk, List.mem_singleton.1 h⟩
theorem addL_org {l : List A} : ∀ {L : List E} {e : E}, e ∈ addL L l → e ∈ L ∨ ∃ a ∈ l, a.kids ≠ [] ∧ e = a.ent := by
  induction l with
  | nil => exact fun h => .inl h
  | cons a l ih =>
    intro L e h
    rcases ih (L := addA L a) h with h | ⟨a', h1, h2⟩
    · rcases addA_org h with h | h
      · exact .inl h
      · exact .inr ⟨a, by simp, h⟩
    · exact .inr ⟨a', by simp [h1], h2⟩

theorem addA_nodup {L : List E} {a : A} (h : (L.map E.key).Nodup) : ((addA L a).map E.key).Nodup := by
  rw [addA_def]
  split
  · exact h
  · unfold addE
    split
    · exact h
    · rename_i hn
      rw [List.map_append]
      refine List.nodup_append.2 ⟨h, by simp, fun x hx y hy e => ?_⟩
      simp at hy
      subst e
      rw [hy] at hx
      exact hn hx
theorem addL_nodup {l : List A} : ∀ {L : List E}, (L.map E.key).Nodup → ((addL L l).map E.key).Nodup := by
  induction l with
  | nil => exact fun h => h
  | cons a l ih => exact fun h => ih (addA_nodup h)

/-- What is met of a row. -/
def Cov (L : List E) (l : List A) : Prop := ∃ e ∈ L, e.l = l
theorem Cov.pre {L L' : List E} {l : List A} (h : Cov L l) (hp : L <+: L') : Cov L' l := by
  obtain ⟨e, h1, h2⟩ := h
  exact ⟨e, hp.subset h1, h2⟩
theorem addA_cov {L : List E} {a : A} (hd : ∀ e ∈ L, e.key = a.key → e.l = a.kids) (hk : a.kids ≠ []) : Cov (addA L a) a.kids := by
  rw [addA_def, if_neg hk]
  unfold addE
  split
  · rename_i h
    obtain ⟨e, h1, h2⟩ := List.mem_map.1 h
    exact ⟨e, h1, hd e h1 (by rw [h2, ent_key])⟩
  · exact ⟨a.ent, by simp, ent_l a⟩

theorem nodup_len {α : Type} [DecidableEq α] : ∀ {l m : List α}, l.Nodup → (∀ x ∈ l, x ∈ m) → l.length ≤ m.length
  | [], m, _, _ => by simp
  | a :: l, m, h, hs => by
    obtain ⟨h1, h2⟩ := List.nodup_cons.1 h
    have := nodup_len (l := l) (m := m.erase a) h2 (fun x hx => (List.mem_erase_of_ne (fun e => h1 (by rw [← e]; exact hx))).2 (hs x (by simp [hx])))
    have hm := hs a (by simp)
    rw [List.length_erase_of_mem hm] at this
    have := List.length_pos_of_mem hm
    simp only [List.length_cons]
    omega

mutual
/-- A tree's parts. -/
def A.subs : A → List A | .mk k n b o c l => .mk k n b o c l :: A.subss l
def A.subss : List A → List A | [] => [] | a :: r => A.subs a ++ A.subss r
end
theorem subss_flat (l : List A) : A.subss l = l.flatMap A.subs := by
  induction l with
  | nil => rfl
  | cons a l ih => simp [A.subss, ih]
theorem subs_self (a : A) : a ∈ a.subs := by cases a; simp [A.subs]
theorem subs_kid {a k : A} : ∀ {r : A}, a ∈ r.subs → k ∈ a.kids → k ∈ r.subs := by
  intro r
  refine A.ind (P := fun r => a ∈ r.subs → k ∈ a.kids → k ∈ r.subs) (fun k' n b o c l ih h hk => ?_) r
  simp only [A.subs, List.mem_cons] at h ⊢
  rcases h with rfl | h
  · right
    rw [subss_flat]
    exact List.mem_flatMap.2 ⟨k, hk, subs_self k⟩
  · right
    rw [subss_flat] at h ⊢
    obtain ⟨x, h1, h2⟩ := List.mem_flatMap.1 h
    exact List.mem_flatMap.2 ⟨x, h1, ih x h1 h2 hk⟩
theorem subs_len : ∀ a : A, a.subs.length = a.t.size := by
  refine A.ind fun k n b o c l ih => ?_
  have : (A.subss l).length = T.sizes (A.ts l) := by
    induction l with
    | nil => rfl
    | cons a l ih2 =>
      have h1 := ih a (by simp)
      have h2 := ih2 (fun a ha => ih a (by simp [ha]))
      simp only [A.subss, A.ts, T.sizes, List.length_append]
      omega
  simp only [A.subs, A.t, T.size, List.length_cons]
  omega

/-- Rows of a tree's parts are no more than these. -/
theorem rows_le {U : List A} {L : List E} (hn : (L.map E.key).Nodup) (ho : ∀ e ∈ L, ∃ a ∈ U, e = a.ent) : L.length ≤ U.length := by
  have := nodup_len (m := U.map A.key) hn (fun x hx => by
    obtain ⟨e, h1, rfl⟩ := List.mem_map.1 hx
    obtain ⟨a, h2, rfl⟩ := ho e h1
    exact List.mem_map.2 ⟨a, h2, (ent_key a).symm⟩)
  simpa using this

set_option maxHeartbeats 2000000 in
theorem add_old (w : World) (B g m : Nat) (v : Value) (L : List E) (h : RowsIs w B g m v L) (e : E) (he : ARow w B e.b e.o e.l) (hn : e.key ∈ L.map E.key) :
    Calls Tryd.prog 38 #[.pointer (some ⟨g, 0, none⟩), e.val] w fun r w' => r = .returned (.tuple #[]) ∧ Nu w w' := by
  obtain ⟨eb, eo, ec, el⟩ := e
  obtain ⟨n, hN⟩ : ∃ n : Nat, el.length = n := ⟨_, rfl⟩
  have hpos : ¬ (n : Int) = 0 := by
    have := he.pos
    intro e0
    have : el.length = 0 := by omega
    exact absurd (List.length_eq_zero_iff.1 this) he.pos
  have hn0 : 0 < n := by omega
  have hle : n ≤ 140737488355328 := by have := he.len; simp only at this; omega
  unfold E.val
  simp only
  rw [hN]
  have HH := hid h
  have HE := hid he
  go_enter Tryd.func38, Tryd.ntmps38
  go_upto_region 2 with fail
  have hb1 := heap_alloc_new w (.cells #[.pointer (some ⟨eb, eo, none⟩), .int .i64 (n : Int)] 106)
  have hM1 : Nu w (w.alloc (.cells #[.pointer (some ⟨eb, eo, none⟩), .int .i64 (n : Int)] 106)) := Mv.alloc _ _ _
  generalize hW : World.alloc _ _ = W1 at hb1 hM1 ⊢
  clear hW
  have HR1 := hid (HH.out.nu hM1)
  have HE1 := hid (HE.out.mv hM1 (fun _ h => h.elim))
  have HM1 := hid hM1
  have k0 : W1.cell? ⟨g, 0, none⟩ = some (.map (some m)) := by rw [cell_blk HR1.out.blk]; rfl
  have x0 : W1.cell? ⟨w.heap.size, 0, none⟩ = some (.pointer (some ⟨eb, eo, none⟩)) := by rw [cell_blk hb1]; rfl
  have x1 : W1.cell? ⟨w.heap.size, 1, none⟩ = some (.int .i64 (n : Int)) := by rw [cell_blk hb1]; rfl
  have hgood : ∀ W, Nu W1 W → (∀ y ∈ L.map E.key, GoodK W y) ∧ GoodK W (eb, eo, n) := fun W hW => by
    refine ⟨fun y hy => ?_, ?_⟩
    · obtain ⟨e', he', rfl⟩ := List.mem_map.1 hy
      exact ((HR1.out.ent e' he').mv hW (fun _ h => h.elim)).cln
    · exact (HE1.out.mv hW (fun _ h => h.elim)).cln
  have hkey : (eb, eo, n) ∈ L.map E.key := by rw [← hN]; exact hn
  have HL : Hid (∀ W, Nu W1 W → (Instr.lookup 80 (.map (some m)) (.agg #[.pointer (some ⟨eb, eo, none⟩), .int .i64 (n : Int)]) true).run Tryd.prog W = .ok (.tuple #[.agg #[], .bool true]) W) := fun W hW =>
    look_yes keysRow (HR1.out.nu hW).set (hgood W hW).1 (eb, eo, n) (hgood W hW).2 hkey
  have hlt1 : w.heap.size < W1.heap.size := lt_of_block hb1
  clear hgood hb1 hM1 he h hn hkey
  have l1 := HL.out W1.drew (Mv.drew _ _)
  have l2 := HL.out ((W1.alloc (.cells #[] 74)).drew) (mv0 (Mv.alloc _ _ _) (Mv.drew _ _))
  have hg1 : g < W1.heap.size := lt_of_block HR1.out.blk
  go_region
  all_goals
    clear l1 l2
    have hM2 : Nu W1 (W1.alloc (.cells #[] 74)).drew := mv0 (Mv.alloc _ _ _) (Mv.drew _ _)
    have HM2 := hid hM2
    go_wp2_with fail
    refine bodyPost_ret (results_none rfl _ _ _) rfl ?_
    exact ⟨rfl, mv0 HM1.out HM2.out⟩

set_option maxHeartbeats 1000000 in
theorem add_nil (w : World) (p : Value) (ao : Option Addr) (c : Nat) :
    Calls Tryd.prog 38 #[p, .slice ao 0 c] w fun r w' => r = .returned (.tuple #[]) ∧ w' = w := by
  go_enter Tryd.func38, Tryd.ntmps38
  go_wp2_with fail
  refine bodyPost_ret (results_none rfl _ _ _) rfl ?_
  exact ⟨rfl, rfl⟩

/-- What add leaves. -/
def Added (w w' : World) (B g m : Nat) (v : Value) (L' : List E) : Prop := Mv (Fp g m v) w w' ∧ ∃ v', RowsIs w' B g m v' L' ∧ (v'.ownBlock = v.ownBlock ∨ ∃ x, v'.ownBlock = some x ∧ w.heap.size ≤ x)

theorem addA_any (w : World) (B g m : Nat) (v : Value) (L : List E) (h : RowsIs w B g m v L) (c0 c1 c2 : Value) (a : A) (ha : AIn w B c0 c1 c2 a) (hlen : L.length ≤ 1000000) :
    Calls Tryd.prog 38 #[.pointer (some ⟨g, 0, none⟩), c2] w fun r w' => r = .returned (.tuple #[]) ∧ Added w w' B g m v (addA L a) := by
  obtain ⟨k, n, b, o, cap, l⟩ := a
  obtain ⟨_, _, _, _, ⟨rfl, ao, c, rfl⟩ | ⟨rfl, hr⟩⟩ := ha.form
  · refine Calls.mono (add_nil w _ ao c) ?_
    rintro e w' ⟨rfl, rfl⟩
    exact ⟨rfl, Mv.refl _ _, v, by simpa [addA] using h, .inl rfl⟩
  · have hne := hr.pos
    by_cases hk : (E.key ⟨b, o, cap, l⟩) ∈ L.map E.key
    · refine Calls.mono (add_old w B g m v L h ⟨b, o, cap, l⟩ hr hk) ?_
      rintro e w' ⟨rfl, hm⟩
      refine ⟨rfl, hm.mono (fun _ h => h.elim), v, ?_, .inl rfl⟩
      simp only [addA, if_neg hne, addE, if_pos hk]
      exact h.nu hm
    · refine Calls.mono (add_any w B g m v L h ⟨b, o, cap, l⟩ hr hlen hk) ?_
      rintro e w' ⟨rfl, hm, v', h1, h2⟩
      refine ⟨rfl, hm, v', ?_, h2⟩
      simp only [addA, if_neg hne, addE, if_neg hk]
      exact h1

theorem Added.trans {w w' w'' : World} {B g m : Nat} {v v' : Value} {L'' : List E} (h1 : Mv (Fp g m v) w w') (ho : v'.ownBlock = v.ownBlock ∨ ∃ x, v'.ownBlock = some x ∧ w.heap.size ≤ x) (h2 : Added w' w'' B g m v' L'') : Added w w'' B g m v L'' := by
  obtain ⟨m2, v'', r2, o2⟩ := h2
  refine ⟨h1.trans m2 (fun x hx => ?_), v'', r2, ?_⟩
  · rcases hx with hx | hx | hx
    · exact .inl (.inl hx)
    · exact .inl (.inr (.inl hx))
    · rcases ho with ho | ⟨y, hy, hy2⟩
      · exact .inl (.inr (.inr (by rw [← ho]; exact hx)))
      · right
        rw [hx] at hy
        cases hy
        exact hy2
  · rcases o2 with o2 | ⟨y, hy, hy2⟩
    · rw [o2]; exact ho
    · exact .inr ⟨y, hy, Nat.le_trans h1.size hy2⟩

set_option maxHeartbeats 2000000 in
theorem addBelow_any (w : World) (B g m : Nat) (v : Value) (L : List E) (h : RowsIs w B g m v L) (e : E) (he : ARow w B e.b e.o e.l) (hlen : ∀ i, (addL L (e.l.take i)).length ≤ 1000000) :
    Calls Tryd.prog 39 #[.pointer (some ⟨g, 0, none⟩), e.val] w fun r w' => r = .returned (.tuple #[]) ∧ Added w w' B g m v (addL L e.l) := by
  obtain ⟨eb, eo, ec, el⟩ := e
  obtain ⟨n, hN⟩ : ∃ n : Nat, el.length = n := ⟨_, rfl⟩
  have hle : n ≤ 140737488355328 := by have := he.len; simp only at this; omega
  unfold E.val
  simp only at hlen ⊢
  rw [hN]
  have HH := hid h
  have HE : Hid (ARow w B eb eo el) := he
  have HLen := hid hlen
  have HNN := hid hN
  have HFB : Hid (∀ x, Fp g m v x → B ≤ x) := fun x hx => (HH.out.fp hx).1
  have HSt : Hid (Added w w B g m v (addL L (el.take 0))) := ⟨Mv.refl _ _, v, h, .inl rfl⟩
  clear h he hlen hN
  go_enter Tryd.func39, Tryd.ntmps39
  go_wp2_with fail
  go_loopw [7] (fun iv wr => ∃ i : Nat, i ≤ n ∧ iv = .int .i64 (i : Int) ∧ Hid (Added w wr B g m v (addL L (el.take i)))) (fun iv _ => n - (intOf iv).toNat)
  case atStart => exact ⟨0, Nat.zero_le _, rfl, HSt⟩
  case round =>
    obtain ⟨i, hi, rfl, HA⟩ := hrel
    by_cases hj : i < n
    · have hj' : (i : Int) < (n : Int) := by omega
      obtain ⟨a, ha⟩ : ∃ a, el[i]? = some a := ⟨_, List.getElem?_eq_getElem (by have := HNN.out; omega)⟩
      obtain ⟨hm, vr, hr, ho⟩ := HA.out
      obtain ⟨d0, d1, d2, e0, e1, e2, e3⟩ := (HE.out.mv hm (fun x hx => HFB.out x hx)).at' i a ha
      have HC := hid (addA_any wr B g m vr _ hr d0 d1 d2 a e3 (HLen.out i))
      have HK : Hid (addL L (el.take (i + 1)) = addA (addL L (el.take i)) a) := by
        show _ = _
        unfold addL
        rw [List.take_add_one, ha, List.foldl_append]
        rfl
      have HM := hid hm
      have HO := hid ho
      have HT : Hid (∀ w'' L'', Added wr w'' B g m vr L'' → Added w w'' B g m v L'') := fun w'' L'' h2 => Added.trans HM.out HO.out h2
      clear hm hr ho e3 e0 e1 ha
      go_wp2_with fail
      refine Calls.mono HC.out ?_
      rintro e w1 ⟨rfl, had⟩
      have HD := hid had
      clear had
      go_wp2_with fail
      go_roundw
      case rel => exact ⟨i + 1, by omega, by go_num, by show Added _ _ _ _ _ _ _; rw [HK.out]; exact HT.out _ _ HD.out⟩
      case measure => simp [intOf]; omega
    · have hj' : ¬ (i : Int) < (n : Int) := by omega
      have HF : Hid (Added w wr B g m v (addL L el)) := by
        have := HA.out
        rwa [List.take_of_length_le (by have := HNN.out; omega)] at this
      go_wp2_with fail
      go_end0
      exact ⟨rfl, HF.out⟩

end Go.Proofs.YtidihaecgmbhpabDoor
/-
  How deep a tree is, by its rows: laws; what the program's tooDeep gives.
-/
set_option linter.unusedSimpArgs false
namespace Go.Proofs.YtidihaecgmbhpabDoor
open Go.RowKit Q

/-- The parts of a level; the first is 0. -/
def lvl : Nat → A → List A
  | 0, a => [a]
  | d + 1, a => a.kids.flatMap (lvl d)

theorem lvl_succ : ∀ (d : Nat) (a : A), lvl (d + 1) a = (lvl d a).flatMap A.kids
  | 0, a => by
    show a.kids.flatMap (fun x => [x]) = _
    simp [lvl]
  | d + 1, a => by
    show a.kids.flatMap (lvl (d + 1)) = (a.kids.flatMap (lvl d)).flatMap A.kids
    rw [List.flatMap_assoc]
    congr 1
    funext x
    exact lvl_succ d x

theorem depths_lt (d : Nat) (l : List A) : d < T.depths (A.ts l) ↔ ∃ a ∈ l, d < a.t.depth := by
  induction l with
  | nil => simp [A.ts, T.depths]
  | cons a l ih =>
    simp only [A.ts, T.depths, List.mem_cons]
    constructor
    · intro h
      by_cases h1 : d < a.t.depth
      · exact ⟨a, .inl rfl, h1⟩
      · obtain ⟨b, hb, h2⟩ := ih.1 (by omega)
        exact ⟨b, .inr hb, h2⟩
    · rintro ⟨b, rfl | hb, h⟩
      · omega
      · have := ih.2 ⟨b, hb, h⟩
        omega

theorem lvl_depth : ∀ (d : Nat) (a : A), lvl d a ≠ [] ↔ d < a.t.depth
  | 0, a => by cases a; simp [lvl, A.t, T.depth]
  | d + 1, a => by
    obtain ⟨k, n, b, o, c, l⟩ := a
    have : (lvl (d + 1) (.mk k n b o c l) ≠ []) ↔ ∃ x ∈ l, lvl d x ≠ [] := by
      simp only [lvl, A.kids]
      rw [Ne, List.flatMap_eq_nil_iff]
      simp
    rw [this]
    simp only [A.t, T.depth, Nat.add_lt_add_iff_right]
    rw [depths_lt]
    constructor
    · rintro ⟨x, h1, h2⟩; exact ⟨x, h1, (lvl_depth d x).1 h2⟩
    · rintro ⟨x, h1, h2⟩; exact ⟨x, h1, (lvl_depth d x).2 h2⟩

theorem lvl_subs : ∀ (d : Nat) (r a : A), a ∈ lvl d r → a ∈ r.subs
  | 0, r, a, h => by simp [lvl] at h; subst h; exact subs_self _
  | d + 1, r, a, h => by
    rw [lvl_succ] at h
    obtain ⟨x, h1, h2⟩ := List.mem_flatMap.1 h
    exact subs_kid (lvl_subs d r x h1) h2

/-- The rows of a level. -/
structure Lev (r : A) (d : Nat) (L : List E) : Prop where
  org : ∀ e ∈ L, ∃ a ∈ lvl d r, a.kids ≠ [] ∧ e = a.ent
  cov : ∀ a ∈ lvl d r, a.kids ≠ [] → Cov L a.kids
  nd : (L.map E.key).Nodup

theorem Lev.some {r : A} {d : Nat} {L : List E} (h : Lev r d L) : 0 < L.length ↔ d + 1 < r.t.depth := by
  rw [← lvl_depth, lvl_succ, Ne, List.flatMap_eq_nil_iff]
  constructor
  · intro hl hn
    cases L with
    | nil => simp at hl
    | cons e L =>
      obtain ⟨a, h1, h2, _⟩ := h.org e (by simp)
      exact h2 (hn a h1)
  · intro hn
    have : ∃ a ∈ lvl d r, a.kids ≠ [] := Classical.byContradiction fun hc => hn fun a ha => Classical.byContradiction fun hk => hc ⟨a, ha, hk⟩
    obtain ⟨a, h1, h2⟩ := this
    obtain ⟨e, he, _⟩ := h.cov a h1 h2
    exact List.length_pos_of_mem he

/-- Rows that are met below some of a level's. -/
structure Blw (r : A) (d : Nat) (M : List E) (L : List E) : Prop where
  org : ∀ e ∈ L, ∃ a ∈ lvl (d + 1) r, a.kids ≠ [] ∧ e = a.ent
  cov : ∀ f ∈ M, ∀ a ∈ f.l, a.kids ≠ [] → Cov L a.kids
  nd : (L.map E.key).Nodup

theorem Blw.nil (r : A) (d : Nat) : Blw r d [] [] := ⟨fun e he => absurd he List.not_mem_nil, fun e he => absurd he List.not_mem_nil, by simp⟩

theorem Blw.lev {r : A} {d : Nat} {M L : List E} (hM : Lev r d M) (h : Blw r d M L) : Lev r (d + 1) L := by
  refine ⟨h.org, fun a ha hk => ?_, h.nd⟩
  rw [lvl_succ] at ha
  obtain ⟨x, h1, h2⟩ := List.mem_flatMap.1 ha
  have hx : x.kids ≠ [] := fun e => by rw [e] at h2; cases h2
  obtain ⟨e, he, hl⟩ := hM.cov x h1 hx
  exact h.cov e he a (by rw [hl]; exact h2) hk

/-- Places that tell their rows. -/
def Det (U : List A) : Prop := ∀ a ∈ U, ∀ b ∈ U, a.kids ≠ [] → b.kids ≠ [] → a.key = b.key → a.kids = b.kids

theorem addL_cov {U : List A} (hU : Det U) : ∀ {l : List A} {L : List E}, (∀ a ∈ l, a ∈ U) → (∀ e ∈ L, ∃ a ∈ U, a.kids ≠ [] ∧ e = a.ent) → ∀ a ∈ l, a.kids ≠ [] → Cov (addL L l) a.kids
  | [], _, _, _, _, h, _ => absurd h List.not_mem_nil
  | b :: l, L, hl, hL, a, ha, hk => by
    have hL' : ∀ e ∈ addA L b, ∃ a ∈ U, a.kids ≠ [] ∧ e = a.ent := fun e he => by
      rcases addA_org he with h | ⟨h1, h2⟩
      · exact hL e h
      · exact ⟨b, hl b (by simp), h1, h2⟩
    rcases List.mem_cons.1 ha with rfl | ha
    · refine (addA_cov (fun e he hkey => ?_) hk).pre (addL_pre _ l)
      obtain ⟨x, h1, h2, rfl⟩ := hL e he
      rw [ent_l]
      rw [ent_key] at hkey
      exact hU x h1 a (hl a (by simp)) h2 hk hkey
    · exact addL_cov hU (fun a ha => hl a (by simp [ha])) hL' a ha hk

theorem Blw.step {r : A} {d : Nat} {M L : List E} {f : E} (hD : Det r.subs) (h : Blw r d M L) (hf : ∃ a ∈ lvl d r, a.kids ≠ [] ∧ f = a.ent) : Blw r d (M ++ [f]) (addL L f.l) := by
  obtain ⟨x, x1, x2, rfl⟩ := hf
  have hin : ∀ a ∈ x.ent.l, a ∈ lvl (d + 1) r := fun a ha => by
    rw [ent_l] at ha
    rw [lvl_succ]
    exact List.mem_flatMap.2 ⟨x, x1, ha⟩
  refine ⟨fun e he => ?_, fun g hg a ha hk => ?_, addL_nodup h.nd⟩
  · rcases addL_org he with h1 | ⟨a, h1, h2, h3⟩
    · exact h.org e h1
    · exact ⟨a, hin a h1, h2, h3⟩
  · rcases List.mem_append.1 hg with hg | hg
    · exact (h.cov g hg a ha hk).pre (addL_pre _ _)
    · obtain rfl := List.mem_singleton.1 hg
      exact addL_cov hD (fun a ha => lvl_subs _ _ _ (hin a ha)) (fun e he => by
        obtain ⟨y, h1, h2, h3⟩ := h.org e he
        exact ⟨y, lvl_subs _ _ _ h1, h2, h3⟩) a ha hk

theorem Blw.len {r : A} {d : Nat} {M L : List E} {f : E} (h : Blw r d M L) (hs : r.t.size ≤ 1000000) (hf : ∃ a ∈ lvl d r, a.kids ≠ [] ∧ f = a.ent) (i : Nat) : (addL L (f.l.take i)).length ≤ 1000000 := by
  obtain ⟨x, x1, x2, rfl⟩ := hf
  have := rows_le (U := r.subs) (L := addL L (x.ent.l.take i)) (addL_nodup h.nd) (fun e he => by
    rcases addL_org he with h1 | ⟨a, h1, h2, h3⟩
    · obtain ⟨y, h1, h2, h3⟩ := h.org e h1
      exact ⟨y, lvl_subs _ _ _ h1, h3⟩
    · have := List.mem_of_mem_take h1
      rw [ent_l] at this
      exact ⟨a, subs_kid (lvl_subs _ _ _ x1) this, h3⟩)
  rw [subs_len] at this
  omega

/-- In memory places tell their rows. -/
theorem AIn.subs {w : World} {B : Nat} : ∀ {a : A} {c0 c1 c2 : Value}, AIn w B c0 c1 c2 a → ∀ x ∈ a.subs, x.kids ≠ [] → ARow w B x.ent.b x.ent.o x.kids := by
  intro a
  refine A.ind (P := fun a => ∀ {c0 c1 c2 : Value}, AIn w B c0 c1 c2 a → ∀ x ∈ a.subs, x.kids ≠ [] → ARow w B x.ent.b x.ent.o x.kids) (fun k n b o c l ih c0 c1 c2 h x hx hk => ?_) a
  simp only [A.subs, List.mem_cons] at hx
  obtain ⟨_, _, _, _, ⟨rfl, _⟩ | ⟨rfl, hr⟩⟩ := h.form
  · rcases hx with rfl | hx
    · exact absurd rfl hk
    · simp [A.subss] at hx
  · rcases hx with rfl | hx
    · exact hr
    · rw [subss_flat] at hx
      obtain ⟨y, h1, h2⟩ := List.mem_flatMap.1 hx
      obtain ⟨i, hi, rfl⟩ := List.getElem_of_mem h1
      obtain ⟨d0, d1, d2, _, _, _, h3⟩ := hr.at' i _ (List.getElem?_eq_getElem hi)
      exact ih _ h1 h3 x h2 hk

theorem AIn.dets {w : World} {B : Nat} {a : A} {c0 c1 c2 : Value} (h : AIn w B c0 c1 c2 a) : Det a.subs := fun x hx y hy h1 h2 hk => by
  have r1 := h.subs x hx h1
  have r2 := h.subs y hy h2
  obtain ⟨k, n, b, o, c, l⟩ := x
  obtain ⟨k', n', b', o', c', l'⟩ := y
  simp only [A.key, Prod.mk.injEq] at hk
  obtain ⟨rfl, rfl, hl⟩ := hk
  exact r1.det r2 hl

theorem Lev.first {r : A} : Lev r 0 (addA [] r) := by
  refine ⟨fun e he => ?_, fun a ha hk => ?_, addA_nodup (by simp)⟩
  · rcases addA_org he with h | ⟨h1, h2⟩
    · exact absurd h List.not_mem_nil
    · exact ⟨r, by simp [lvl], h1, h2⟩
  · simp [lvl] at ha
    subst ha
    exact addA_cov (fun e he => absurd he List.not_mem_nil) hk

theorem row_cell {w : World} {B : Nat} {e : TypeId} {v : Value} {n : Nat} {xs : List Value} {i : Nat} {x : Value} (h : w.ownsRow B e 1 v n xs) (hi : xs[i]? = some x) : ∃ g cap, v = .slice (some ⟨g, 0, none⟩) n cap ∧ w.cell? ⟨g, i, none⟩ = some x := by
  have hlt := (List.getElem?_eq_some_iff.1 hi).1
  rcases h.2 with ⟨_, rfl⟩ | ⟨g, cap, cur, rfl, _, hgg, _, _, _, ht⟩
  · have := h.1; omega
  · refine ⟨g, cap, rfl, ?_⟩
    rw [cell_blk hgg, ← Array.getElem?_toList]
    have h1 : (cur.toList.take (n * 1))[i]? = some x := by rw [ht]; exact hi
    rw [List.getElem?_take] at h1
    split at h1
    · exact h1
    · cases h1
theorem row_len {w : World} {B : Nat} {e : TypeId} {v : Value} {n : Nat} {xs : List Value} (h : w.ownsRow B e 1 v n xs) : ∃ ao cap, v = .slice ao n cap := by
  rcases h.2 with ⟨rfl, rfl⟩ | ⟨g, cap, cur, rfl, _⟩
  · exact ⟨none, 0, rfl⟩
  · exact ⟨_, cap, rfl⟩

end Go.Proofs.YtidihaecgmbhpabDoor
/-
  What the program's tooDeep gives.
-/
set_option linter.unusedSimpArgs false
namespace Go.Proofs.YtidihaecgmbhpabDoor
open Go.RowKit Q

/-- Rows under way that lie apart from what lay ahead of H. -/
structure Under (w wr : World) (B H g m : Nat) (v : Value) (L : List E) : Prop where
  rows : RowsIs wr B g m v L
  mv : Mv (fun x => H ≤ x) w wr
  fp : ∀ x, Fp g m v x → H ≤ x

theorem Under.add {w wr wr' : World} {B H g m : Nat} {v : Value} {L L' : List E} (h : Under w wr B H g m v L) (ha : Added wr wr' B g m v L') (hH : H ≤ wr.heap.size) : ∃ v', Under w wr' B H g m v' L' := by
  obtain ⟨m1, v', r1, o1⟩ := ha
  refine ⟨v', r1, h.mv.trans m1 (fun x hx => .inl (h.fp x hx)), fun x hx => ?_⟩
  rcases hx with hx | hx | hx
  · exact h.fp x (.inl hx)
  · exact h.fp x (.inr (.inl hx))
  · rcases o1 with o1 | ⟨y, hy, hy2⟩
    · exact h.fp x (.inr (.inr (by rw [← o1]; exact hx)))
    · rw [hx] at hy
      cases hy
      omega

/-- Between two rounds of the outer loop. -/
structure DMid (w wr : World) (r : A) (c0 c1 c2 : Value) (d g : Nat) (L : List E) : Prop where
  nu : Nu w wr
  lev : Lev r d L
  ex : ∃ m v, RowsIs wr w.heap.size g m v L

theorem DMid.cells {w wr : World} {r : A} {c0 c1 c2 : Value} {d g : Nat} {L : List E} (h : DMid w wr r c0 c1 c2 d g L) : ∃ m ao cap, wr.cell? ⟨g, 0, none⟩ = some (.map (some m)) ∧ wr.cell? ⟨g, 1, none⟩ = some (.slice ao L.length cap) ∧ RowsIs wr w.heap.size g m (.slice ao L.length cap) L := by
  obtain ⟨m, v, hr⟩ := h.ex
  obtain ⟨ao, cap, rfl⟩ := row_len hr.row
  exact ⟨m, ao, cap, by rw [cell_blk hr.blk]; rfl, by rw [cell_blk hr.blk]; rfl, hr⟩

set_option maxHeartbeats 4000000 in
theorem tooDeep_any (w : World) (pb po : Nat) (c0 c1 c2 : Value) (r : A) (h2 : w.cell? ⟨pb, po + 2, none⟩ = some c2) (h : AIn w w.heap.size c0 c1 c2 r) (hs : r.t.size ≤ 1000000) :
    Looks 27 #[.pointer (some ⟨pb, po, none⟩)] w (.bool (decide (100 < r.t.depth))) := by
  have HA := hid h
  have HS := hid hs
  have HD := hid h.dets
  clear h hs
  unfold Looks
  go_enter Tryd.func27, Tryd.ntmps27
  go_wp2_with fail
  refine Calls.mono (newRows_any w) ?_
  rintro e w1 ⟨rfl, rfl⟩
  have hr1 := new_rows w w.heap.size (Nat.le_refl _)
  have hm1 : Nu w ((w.alloc (.map #[] 0)).alloc (.cells #[.map (some w.heap.size), .slice none 0 0] 82)) := mv0 (Mv.alloc _ _ _) (Mv.alloc _ _ _)
  generalize hW : World.alloc _ _ = W1 at hr1 hm1 ⊢
  clear hW
  replace h2 := cell_mv hm1 h2 id
  have HC := hid (addA_any W1 w.heap.size (w.heap.size + 1) w.heap.size _ [] hr1 c0 c1 c2 r (HA.out.mv hm1 (fun _ h => h.elim)) (by simp))
  have HM1 := hid hm1
  clear hr1 hm1
  go_wp2_with fail
  refine Calls.mono HC.out ?_
  rintro e w2 ⟨rfl, had⟩
  have HU : Hid (DMid w w2 r c0 c1 c2 0 (w.heap.size + 1) (addA [] r)) := by
    obtain ⟨q1, v', q2, q3⟩ := had
    refine ⟨HM1.out.trans q1 (fun x hx => .inr ?_), Lev.first, _, v', q2⟩
    rcases hx with rfl | rfl | hx
    · omega
    · omega
    · cases hx
  clear had h2
  go_wp2_with fail
  go_loopw [3, 4] (fun lv dv wr => ∃ (d g : Nat) (L : List E), d < 100 ∧ lv = .pointer (some ⟨g, 0, none⟩) ∧ dv = .int .i64 ((d : Int) + 1) ∧ Hid (DMid w wr r c0 c1 c2 d g L)) (fun _ dv _ => 100 - (intOf dv).toNat)
  case atStart => exact ⟨0, w.heap.size + 1, _, by omega, rfl, rfl, HU⟩
  case round =>
    rename World => V
    obtain ⟨d, g, L, hd, rfl, rfl, HU'⟩ := hrel
    obtain ⟨m, ao, cap, k0, k1, hr⟩ := HU'.out.cells
    have HR := hid hr
    have HLv := hid HU'.out.lev
    have HN := hid HU'.out.nu
    clear hr HU
    obtain ⟨N, hN⟩ : ∃ N : Nat, L.length = N := ⟨_, rfl⟩
    have HNN := hid hN
    have hNb : N ≤ 1000000 := by
      have h1 := rows_le (U := r.subs) HLv.out.nd (fun e he => by
        obtain ⟨a, h1, h2, h3⟩ := HLv.out.org e he
        exact ⟨a, lvl_subs _ _ _ h1, h3⟩)
      rw [subs_len] at h1
      have h2 := HS.out
      omega
    rw [hN] at k1
    clear hN
    by_cases hd1 : d + 1 < 100
    · have hd' : (d : Int) + 1 < 100 := by omega
      by_cases hn : 0 < N
      · have hn' : (N : Int) > 0 := by omega
        obtain ⟨ga, hga⟩ : ∃ ga, ao = some ⟨ga, 0, none⟩ := by
          obtain ⟨e0, he0⟩ : ∃ e0, L[0]? = some e0 := ⟨_, List.getElem?_eq_getElem (by have := HNN.out; omega)⟩
          obtain ⟨g', cap', h1, _⟩ := row_cell (i := 0) (x := e0.val) HR.out.row (by rw [List.getElem?_map, he0]; rfl)
          injection h1 with h1
          exact ⟨g', h1⟩
        subst hga
        go_wp2_with fail
        refine Calls.mono (newRows_any V) ?_
        rintro e w1 ⟨rfl, rfl⟩
        have hr3 := new_rows V w.heap.size HN.out.size
        have hm3 : Nu V ((V.alloc (.map #[] 0)).alloc (.cells #[.map (some V.heap.size), .slice none 0 0] 82)) := mv0 (Mv.alloc _ _ _) (Mv.alloc _ _ _)
        generalize hW : World.alloc _ _ = W3 at hr3 hm3 ⊢
        clear hW
        replace k0 := cell_mv hm3 k0 id
        replace k1 := cell_mv hm3 k1 id
        have HU3 : Hid (Under V W3 w.heap.size V.heap.size (V.heap.size + 1) V.heap.size (.slice none 0 0) [] ∧ Blw r d (L.take 0) []) := by
          refine ⟨⟨hr3, hm3.mono (fun _ h => h.elim), fun x hx => ?_⟩, Blw.nil r d⟩
          rcases hx with rfl | rfl | hx
          · omega
          · omega
          · cases hx
        have HM3 := hid hm3
        clear hr3 hm3
        have HKeep : Hid (∀ W, Mv (fun x => V.heap.size ≤ x) V W → RowsIs W w.heap.size g m (.slice (some ⟨ga, 0, none⟩) L.length cap) L) := fun W hW =>
          HR.out.mv hW (fun x hx hx2 => by have := (HR.out.fp hx).2; omega) (fun x hx => by have := HN.out.size; omega)
        go_wp2_with fail
        go_loopw [33] (fun iv w4 => ∃ i : Nat, i ≤ N ∧ iv = .int .i64 (i : Int) ∧ Hid (∃ v' Li, Under V w4 w.heap.size V.heap.size (V.heap.size + 1) V.heap.size v' Li ∧ Blw r d (L.take i) Li)) (fun iv _ => N - (intOf iv).toNat)
        case atStart => exact ⟨0, Nat.zero_le _, rfl, ⟨_, _, HU3.out⟩⟩
        case round =>
          obtain ⟨i, hi, rfl, HI⟩ := hrel
          by_cases hj : i < N
          · have hj' : (i : Int) < (N : Int) := by omega
            obtain ⟨v', Li, hu, hb⟩ := HI.out
            obtain ⟨e, he⟩ : ∃ e, L[i]? = some e := ⟨_, List.getElem?_eq_getElem (by have := HNN.out; omega)⟩
            have hK := HKeep.out _ hu.mv
            have kc : wr.cell? ⟨ga, i, none⟩ = some e.val := by
              obtain ⟨g', cap', h1, kc⟩ := row_cell (i := i) (x := e.val) hK.row (by rw [List.getElem?_map, he]; rfl)
              injection h1 with h1
              injection h1 with h1
              injection h1 with h1
              rw [h1]
              exact kc
            have hem := List.mem_of_getElem? he
            have hor := HLv.out.org e hem
            have HC4 := hid (addBelow_any _ _ _ _ _ _ hu.rows e (hK.ent e hem) (hb.len HS.out hor))
            have HB1 : Hid (Blw r d (L.take (i + 1)) (addL Li e.l)) := by
              have := hb.step HD.out hor
              show Blw _ _ _ _
              rw [List.take_add_one, he]
              exact this
            have HUn := hid hu
            have HSz : Hid (V.heap.size ≤ wr.heap.size) := hu.mv.size
            generalize hev : e.val = ev at kc HC4
            obtain ⟨eb, eo, ec, el⟩ := e
            unfold E.val at hev
            simp only at hev
            subst hev
            clear hu hb hK he hem hor HI
            go_wp2_with fail
            refine Calls.mono HC4.out ?_
            rintro e w5 ⟨rfl, had⟩
            have HX : Hid (∃ v'' Li', Under V w5 w.heap.size V.heap.size (V.heap.size + 1) V.heap.size v'' Li' ∧ Blw r d (L.take (i + 1)) Li') := by
              obtain ⟨v'', h9⟩ := HUn.out.add had HSz.out
              exact ⟨v'', _, h9, HB1.out⟩
            clear had
            go_wp2_with fail
            go_roundw
            case rel => exact ⟨i + 1, by omega, by go_num, HX⟩
            case measure => simp [intOf]; omega
          · have hj' : ¬ (i : Int) < (N : Int) := by omega
            have HX : Hid (∃ Li, DMid w wr r c0 c1 c2 (d + 1) (V.heap.size + 1) Li) := by
              obtain ⟨v', Li, hu, hb⟩ := HI.out
              rw [List.take_of_length_le (by have := HNN.out; omega)] at hb
              exact ⟨Li, HN.out.trans hu.mv (fun x hx => .inr (by have := HN.out.size; omega)), Blw.lev HLv.out hb, _, _, hu.rows⟩
            clear HI
            obtain ⟨Li, hX⟩ := HX.out
            have HY := hid hX
            clear hX HX
            go_wp2_with fail
            exact ⟨⟨d + 1, _, _, hd1, rfl, by congr 1, HY⟩, by simp [intOf]; omega⟩
      · have hn' : ¬ (N : Int) > 0 := by omega
        have hN0 : N = 0 := by omega
        subst hN0
        have HE : Hid (decide (100 < r.t.depth) = false) := decide_eq_false fun hx => by
          have := (HLv.out.some (d := d)).2 (by omega)
          have := HNN.out
          omega
        go_wp2_with fail
        go_ret
        exact ⟨ret_bool (a := false) HE.out.symm, HN.out⟩
    · have hd' : ¬ (d : Int) + 1 < 100 := by omega
      have HE : Hid (decide (100 < r.t.depth) = decide ((N : Int) > 0)) := by
        have := HLv.out.some
        have := HNN.out
        have : d = 99 := by omega
        subst this
        show _ = _
        rw [Bool.eq_iff_iff]
        simp
        omega
      go_wp2_with fail
      go_ret
      refine ⟨ret_bool ?_, HN.out⟩
      rw [HE.out]
      simp

end Go.Proofs.YtidihaecgmbhpabDoor
