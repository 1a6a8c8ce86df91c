/-
  SAppend, SRep.
-/
import Derived.Deep.AppendLies
import Derived.Test.YthmdgbmodgfcmaaGreatDoorM1
import Derived.Test.YthmdgbmodgfcmaaGreatDoorM4
/-
  append(l, make([]T, 1)...): one zero element behind a row that is owned: a law on the model; nothing of the program's text.
-/
set_option linter.unusedSimpArgs false
namespace Go.Proofs.YthmdgbmodgfcmaaGreatDoor
open Go.RowKit

theorem zeroCells_one (z : Array Value) : (Builtin.zeroCells z 1).toList = z.toList := by
  apply List.ext_getElem?
  intro i
  simp only [Builtin.zeroCells, Array.toList_map, List.getElem?_map, Nat.one_mul]
  by_cases h : i < z.size
  · rw [Array.getElem?_toList, Array.getElem?_eq_getElem (by simpa using h)]
    simp [Nat.mod_eq_of_lt h, h]
  · rw [Array.getElem?_toList, Array.getElem?_eq_none (by simpa using h)]
    simp [h]

/-- THE LAW. -/
theorem run_append_zero {P : Program} (w : World) (t ti ty : TypeId) (e : TypeId) (i : TypeInfo) (z : Value) (k : IntKind) (ht : P.underlying t = some (.slice e)) (hti : P.underlying ti = some (.int k)) (hi : P.info? e = some i) (hz : i.zero = some z)
    (hzs : z.cells.size = i.size) (hsz : 0 < i.size) (h1 : ∀ u ∈ z.cells.toList, u.oneCell' = true) (hb48 : i.bytes ≤ 65536)
    (v : Value) (n : Nat) (xs : List Value) (hown : w.ownsRow 0 e i.size v n xs) (hn : n ≤ 2000000) :
    ∃ g cap w', (Builtin.append_ #[t, ti] ty #[v, .int .i64 1]).run P w = .ok (.slice (some ⟨g, 0, none⟩) (n + 1) cap) w' ∧
      w'.ownsRow 0 e i.size (.slice (some ⟨g, 0, none⟩) (n + 1) cap) (n + 1) (xs ++ z.cells.toList) ∧ w.grownBy w' v.ownBlock ∧ (v.ownBlock = some g ∨ g = w.heap.size) ∧ g < w'.heap.size := by
  have hzl : z.cells.toList.length = 1 * i.size := by simpa using hzs
  have hlen : (xs ++ z.cells.toList).length = (n + 1) * i.size := by rw [List.length_append, hown.1, hzl, Nat.add_mul]
  have h63 : n + 1 ≤ maxLen := by unfold maxLen; omega
  have hbytes : (n + 1) * i.bytes ≤ 140737488355328 := by
    have : (n + 1) * i.bytes ≤ 2000001 * 65536 := Nat.mul_le_mul (by omega) hb48
    omega
  have hw1 : IntKind.i64.wrap 1 = 1 := by decide
  have hnb : ¬ ((281474976710656 : Int) < ((i.bytes : Nat) : Int)) := by omega
  have hne : ¬ i.size = 0 := by omega
  have grown : ∀ (old : Nat), old < n + 1 → ∀ (row : Option Nat),
      (w.drew.alloc (.cells (xs.toArray ++ Builtin.zeroCells z.cells 1 ++ Builtin.zeroCells z.cells (grownCap w (n + 1) old e - (n + 1))) e)).ownsRow 0 e i.size
        (.slice (some ⟨w.heap.size, 0, none⟩) (n + 1) (grownCap w (n + 1) old e)) (n + 1) (xs ++ z.cells.toList) ∧
      w.grownBy (w.drew.alloc (.cells (xs.toArray ++ Builtin.zeroCells z.cells 1 ++ Builtin.zeroCells z.cells (grownCap w (n + 1) old e - (n + 1))) e)) row := by
    intro old ho row
    have hge := grownCap_ge w (n + 1) old e
    have hcm : grownCap w (n + 1) old e ≤ maxLen := grownCap_le_maxLen w (n + 1) old e h63
    refine ⟨⟨hlen, .inr ⟨w.heap.size, _, _, rfl, Nat.zero_le _, heap_alloc_new w.drew _, hge, hcm, ?_, ?_⟩⟩, ⟨rfl, rfl, rfl, by simp, fun k hk _ => Below.heap_alloc w.drew _ k hk⟩⟩
    · simp only [Array.size_append, List.size_toArray, size_zeroCells, hzs, hown.1, ← Nat.add_mul]
      congr 1
      omega
    · simp only [Array.toList_append, zeroCells_one]
      rw [← hlen]
      exact List.take_left
  rcases hown.2 with ⟨rfl, rfl⟩ | ⟨g, cap, cur, rfl, hbg, hg, hnc, hcm, hcs, htake⟩
  · have hx : xs = [] := List.eq_nil_of_length_eq_zero (by simpa using hown.1)
    subst hx
    have hf := growslice_fits (need := 1) (old := 0) (bytes := i.bytes) (by omega) (by omega)
    have hf' : ¬ (281474976710656 < Builtin.nextslicecap 1 0 * i.bytes) := by simpa using Nat.not_lt.2 hf
    have hgr := grown 0 (by omega) (Value.ownBlock (.slice none 0 0))
    refine ⟨w.heap.size, _, _, ?_, hgr.1, hgr.2, .inr rfl, by simp⟩
    simp [Builtin.append_, run_underlying ht, run_underlying hti, sizeOf, typeInfo, hi, hz, asInt, asIntOf, hw1, hnb, hne, hf', Builtin.firstCells, zeroValue, Question.forced, newRow, grownCap]
    intro hbig
    exact absurd hbig (by decide)
  · by_cases hroom : n + 1 ≤ cap
    · have hfit : n * i.size + z.cells.toList.length ≤ cur.size := by rw [hzl, hcs, ← Nat.add_mul]; exact Nat.mul_le_mul_right _ hroom
      have hst := run_storeCells_at P g (n * i.size) e z.cells.toList 0 cur w hg (by simpa using hfit) h1
      simp only [Nat.add_zero] at hst
      refine ⟨g, cap, w.setRow g (cur.toList.take (n * i.size) ++ z.cells.toList ++ cur.toList.drop (n * i.size + z.cells.toList.length)).toArray, ?_, ⟨hlen, .inr ⟨g, cap, _, rfl, hbg, setRow_heap w g cur _ e _ hg, hroom, hcm, ?_, ?_⟩⟩, ⟨rfl, rfl, rfl, by simp, fun k _ hk => setRow_other w g k _ (fun e => hk (by simp [Value.ownBlock, e]))⟩, .inl rfl, ?_⟩
      · simp [Builtin.append_, run_underlying ht, run_underlying hti, sizeOf, typeInfo, hi, hz, asInt, asIntOf, hw1, hnb, hne, hroom, zeroValue, Addr.add_lit, zeroCells_one, hst]
      · simp only [List.size_toArray, List.length_append, List.length_take, List.length_drop, Array.length_toList] at hfit ⊢
        omega
      · rw [htake, ← hlen]
        exact List.take_left
      · have := lt_of_block hg
        simpa using this
    · have holds : ∀ j u, xs[j]? = some u → w.cell? ((⟨g, 0, none⟩ : Addr).add j) = some u := hown.cells (g := g) rfl
      have hf := growslice_fits (need := n + 1) (old := cap) (bytes := i.bytes) (by omega) hbytes
      have hf' : ¬ (281474976710656 < Builtin.nextslicecap (n + 1) cap * i.bytes) := Nat.not_lt.2 hf
      have h63' : ¬ (9223372036854775807 < ((n : Int) + 1)) := by omega
      have hold := run_firstCells_some (P := P) w.drew i.size n ⟨g, 0, none⟩ n cap xs hown.1 (by simpa using holds)
      have hgr := grown cap (by omega) (Value.ownBlock (.slice (some ⟨g, 0, none⟩) n cap))
      refine ⟨w.heap.size, _, _, ?_, hgr.1, hgr.2, .inr rfl, by simp⟩
      simp [Builtin.append_, run_underlying ht, run_underlying hti, sizeOf, typeInfo, hi, hz, asInt, asIntOf, hw1, hnb, hne, hroom, hf', h63', hold, zeroValue, Question.forced, newRow, grownCap]
      intro hbig
      rw [show max (1 : Int) 0 = 1 from by decide] at hbig
      omega

/-- At the list of a plain region's operations. -/
theorem wpList_append_zero {P : Program} {w : World} {ops : Array Oper} {rest : List Oper} {o : Oper} {a : Act} {Q : Exit → Act → World → Prop} (hgd : o.guard = none) (s x : Operand) (t ti : TypeId)
    (ho : o.op = .call { callee := .builtin .append, args := #[s, x], argTypes := #[t, ti] })
    (e : TypeId) (i : TypeInfo) (z : Value) (k : IntKind) (ht : P.underlying t = some (.slice e)) (hti : P.underlying ti = some (.int k)) (hi : P.info? e = some i) (hz : i.zero = some z)
    (hzs : z.cells.size = i.size) (hsz : 0 < i.size) (h1 : ∀ u ∈ z.cells.toList, u.oneCell' = true) (hb48 : i.bytes ≤ 65536)
    (v : Value) (n : Nat) (xs : List Value) (hs : a.eval s = v) (hx : a.eval x = .int .i64 1) (hown : w.ownsRow 0 e i.size v n xs) (hn : n ≤ 2000000)
    (h : ∀ g cap w', w'.ownsRow 0 e i.size (.slice (some ⟨g, 0, none⟩) (n + 1) cap) (n + 1) (xs ++ z.cells.toList) → w.grownBy w' v.ownBlock → (v.ownBlock = some g ∨ g = w.heap.size) → g < w'.heap.size → wpList P ops Q rest (a.put o.dst (.slice (some ⟨g, 0, none⟩) (n + 1) cap)) w') : wpList P ops Q (o :: rest) a w := by
  refine wpList_plain hgd fun _ hK => ?_
  obtain ⟨g, cap, w', hr, h2, h3, h4, h5⟩ := run_append_zero (P := P) w t ti o.type e i z k ht hti hi hz hzs hsz h1 hb48 v n xs hown hn
  unfold Oper.wp execOp
  simp only [ho, resolve, invoke, builtin, Sem.run_bind, Sem.run_pure, Result.andThen_ok, List.map_toArray, List.map_cons, List.map_nil, hs, hx, hr]
  exact hK _ _ (h g cap w' h2 h3 h4 h5)

end Go.Proofs.YthmdgbmodgfcmaaGreatDoor
/-
  Trees in memory: what a cell, a row of cells holds, and which blocks it takes; what a step leaves as it was. Nothing of the program's text.
-/
namespace Go.Proofs.YthmdgbmodgfcmaaGreatDoor
open Go.RowKit

/-- The types of what rows hold. -/
inductive Ty where
  | str | ast | bool | arg | stmt | stmts | decl | var | int | unit
  deriving DecidableEq

/-- A cell's datum. -/
inductive D where
  | num (n : Int)
  | bit (b : Bool)
  | str (s : List UInt8)
  | row (t : Ty) (els : List (List D))

def strOfL (l : List UInt8) : ByteArray := ⟨l.toArray⟩

/-- Which type numbers the element types have, and how many cells. -/
structure Tys where
  id : Ty → TypeId
  size : Ty → Nat

/-- What a value is, its blocks being among F. -/
inductive DIs (τ : Tys) (w : World) : (Nat → Prop) → Value → D → Prop where
  | num (F : Nat → Prop) (n : Int) : DIs τ w F (.int .i64 n) (.num n)
  | bit (F : Nat → Prop) (b : Bool) : DIs τ w F (.bool b) (.bit b)
  | str (F : Nat → Prop) (s : List UInt8) : DIs τ w F (.string (strOfL s)) (.str s)
  | nil (F : Nat → Prop) (t : Ty) : DIs τ w F (.slice none 0 0) (.row t [])
  | row (F Fe : Nat → Prop) (t : Ty) (els : List (List D)) (g cap : Nat) (cur : Array Value) (hg : w.heap[g]? = some (.cells cur (τ.id t) (0, 0))) (h0 : 0 < els.length) (hn : els.length ≤ cap) (hc : cap ≤ maxLen) (hs : cur.size = cap * τ.size t)
      (hel : ∀ e ∈ els, e.length = τ.size t) (hF : F g) (hFe : ∀ x, Fe x → F x ∧ x ≠ g) (hcells : ∀ (i : Nat) (d : D), els.flatten[i]? = some d → ∃ v, cur[i]? = some v) 
      (hd : ∀ (i : Nat) (d : D) (v : Value), els.flatten[i]? = some d → cur[i]? = some v → DIs τ w Fe v d) : DIs τ w F (.slice (some ⟨g, 0, none⟩) els.length cap) (.row t els)

/-- Blocks that were there and are not in S are as they were. -/
structure Mv (S : Nat → Prop) (w w' : World) : Prop where
  os : w'.os = w.os
  tape : w'.tape = w.tape
  output : w'.output = w.output
  size : w.heap.size ≤ w'.heap.size
  block : ∀ k, k < w.heap.size → ¬ S k → w'.heap[k]? = w.heap[k]?

theorem Mv.refl (S : Nat → Prop) (w : World) : Mv S w w := ⟨rfl, rfl, rfl, Nat.le_refl _, fun _ _ _ => rfl⟩
theorem Mv.trans {S T : Nat → Prop} {a b c : World} (h : Mv S a b) (k : Mv T b c) (ht : ∀ x, T x → S x ∨ a.heap.size ≤ x) : Mv S a c :=
  ⟨k.os.trans h.os, k.tape.trans h.tape, k.output.trans h.output, Nat.le_trans h.size k.size, fun i hi hn =>
    (k.block i (Nat.lt_of_lt_of_le hi h.size) (fun hx => (ht i hx).elim hn (fun h1 => by omega))).trans (h.block i hi hn)⟩
theorem Mv.mono {S T : Nat → Prop} {a b : World} (h : Mv S a b) (ht : ∀ x, S x → T x ∨ a.heap.size ≤ x) : Mv T a b := (Mv.refl T a).trans h ht
theorem Mv.of_kept {S : List Nat} {w w' : World} (h : Kept S w w') : Mv (· ∈ S) w w' := ⟨h.os, h.tape, h.output, h.size, h.block⟩
theorem Mv.kept {w w' : World} (h : Mv (fun _ => False) w w') : Kept [] w w' := ⟨h.os, h.tape, h.output, h.size, fun k hk _ => h.block k hk id⟩
theorem Mv.heap {S : Nat → Prop} {w w' : World} (h : Mv S w w') {k : Nat} {o : Obj} (ho : w.heap[k]? = some o) (hn : ¬ S k) : w'.heap[k]? = some o :=
  (h.block k (Array.getElem?_eq_some_iff.1 ho).1 hn).trans ho
theorem Mv.alloc (S : Nat → Prop) (w : World) (o : Obj) : Mv S w (w.alloc o) := ⟨rfl, rfl, rfl, by simp, fun _ hk _ => Below.heap_alloc w o _ hk⟩
theorem Mv.drew (S : Nat → Prop) (w : World) : Mv S w w.drew := ⟨rfl, rfl, rfl, Nat.le_refl _, fun _ _ _ => rfl⟩
theorem Mv.drewN (S : Nat → Prop) (w : World) (n : Nat) : Mv S w (w.drewN n) := ⟨rfl, rfl, rfl, Nat.le_refl _, fun _ _ _ => rfl⟩
theorem Mv.setCell (w : World) (p : Addr) (u : Value) : Mv (· = p.block) w (w.setCell p u) :=
  ⟨rfl, rfl, rfl, by simp [World.setCell], fun _ _ hn => Below.heap_setCell _ _ _ _ (by simpa using hn)⟩
theorem Mv.grown {w w' : World} {row : Option Nat} (h : w.grownBy w' row) : Mv (fun x => row = some x) w w' :=
  ⟨h.os, h.tape, h.output, h.size, fun k hk hn => h.block k hk (fun e => hn e.symm)⟩

variable {τ : Tys}

theorem DIs.mono {w : World} {F : Nat → Prop} {v : Value} {d : D} (h : DIs τ w F v d) : ∀ {G : Nat → Prop}, (∀ x, F x → G x) → DIs τ w G v d := by
  cases h with
  | num _ n => exact fun _ => .num _ n
  | bit _ n => exact fun _ => .bit _ n
  | str _ n => exact fun _ => .str _ n
  | nil _ t => exact fun _ => .nil _ t
  | row _ Fe t els g cap cur hg h0 hn hc hs hel hF hFe hcells hd => exact fun hG => .row _ Fe t els g cap cur hg h0 hn hc hs hel (hG _ hF) (fun x hx => ⟨hG _ (hFe x hx).1, (hFe x hx).2⟩) hcells hd

theorem DIs.kept {w w' : World} {F : Nat → Prop} {v : Value} {d : D} (h : DIs τ w F v d) (hk : ∀ g, F g → g < w.heap.size → w'.heap[g]? = w.heap[g]?) : DIs τ w' F v d := by
  induction h with
  | num _ n => exact .num _ n
  | bit _ n => exact .bit _ n
  | str _ n => exact .str _ n
  | nil _ t => exact .nil _ t
  | row F Fe t els g cap cur hg h0 hn hc hs hel hF hFe hcells hd ih =>
    exact .row F Fe t els g cap cur ((hk g hF (lt_of_block hg)).trans hg) h0 hn hc hs hel hF hFe hcells (fun i d v h1 h2 => ih i d v h1 h2 (fun x hx => hk x (hFe x hx).1))

/-- Its blocks may be taken to be there. -/
theorem DIs.lt {w : World} {F : Nat → Prop} {v : Value} {d : D} (h : DIs τ w F v d) : DIs τ w (fun x => F x ∧ x < w.heap.size) v d := by
  induction h with
  | num _ n => exact .num _ n
  | bit _ n => exact .bit _ n
  | str _ n => exact .str _ n
  | nil _ t => exact .nil _ t
  | row F Fe t els g cap cur hg h0 hn hc hs hel hF hFe hcells hd ih =>
    exact .row _ (fun x => Fe x ∧ x < w.heap.size) t els g cap cur hg h0 hn hc hs hel ⟨hF, lt_of_block hg⟩ (fun x hx => ⟨⟨(hFe x hx.1).1, hx.2⟩, (hFe x hx.1).2⟩) hcells ih

/-- Cells from o on, in the block b: what they hold; each cell has blocks of its own, all of them among F. -/
structure At (τ : Tys) (w : World) (F : Nat → Prop) (b : Nat) (t : TypeId) (N o : Nat) (ds : List D) : Prop where
  ex : ∃ (cs : Array Value) (fp : Nat → Nat → Prop), w.heap[b]? = some (.cells cs t (0, 0)) ∧ cs.size = N ∧ (∀ i d, ds[i]? = some d → ∃ v, cs[o + i]? = some v ∧ DIs τ w (fp i) v d) ∧
    (∀ i x, fp i x → F x) ∧ (∀ i j x, fp i x → fp j x → i = j)
  room : o + ds.length ≤ N
  nb : ¬ F b
  lt : ∀ x, F x → x < w.heap.size

theorem At.blk {w : World} {F : Nat → Prop} {b : Nat} {t : TypeId} {N o : Nat} {ds : List D} (h : At τ w F b t N o ds) : ∃ cs, w.heap[b]? = some (.cells cs t (0, 0)) ∧ cs.size = N := by
  obtain ⟨cs, fp, h1, h2, _⟩ := h.ex
  exact ⟨cs, h1, h2⟩

theorem At.blt {w : World} {F : Nat → Prop} {b : Nat} {t : TypeId} {N o : Nat} {ds : List D} (h : At τ w F b t N o ds) : b < w.heap.size := by
  obtain ⟨cs, h1, _⟩ := h.blk
  exact lt_of_block h1

theorem At.cell {w : World} {F : Nat → Prop} {b : Nat} {t : TypeId} {N o : Nat} {ds : List D} (h : At τ w F b t N o ds) (i : Nat) (d : D) (hd : ds[i]? = some d) : ∃ v, w.cell? ⟨b, o + i, none⟩ = some v ∧ DIs τ w F v d := by
  obtain ⟨cs, fp, h1, h2, h3, h4, h5⟩ := h.ex
  obtain ⟨v, hv, hdv⟩ := h3 i d hd
  exact ⟨v, by rw [cell_blk h1]; exact hv, hdv.mono (h4 i)⟩

theorem At.free {w : World} {F : Nat → Prop} {b : Nat} {t : TypeId} {N o : Nat} {ds : List D} (h : At τ w F b t N o ds) (i : Nat) : w.frozen? ⟨b, i, none⟩ = false := by
  obtain ⟨cs, h1, _⟩ := h.blk
  exact free_blk h1 i

theorem At.num {w : World} {F : Nat → Prop} {b : Nat} {t : TypeId} {N o : Nat} {ds : List D} (h : At τ w F b t N o ds) (i : Nat) {n : Int} (hd : ds[i]? = some (.num n)) : w.cell? ⟨b, o + i, none⟩ = some (.int .i64 n) := by
  obtain ⟨v, hv, hdv⟩ := h.cell i _ hd; cases hdv; exact hv
theorem At.bit {w : World} {F : Nat → Prop} {b : Nat} {t : TypeId} {N o : Nat} {ds : List D} (h : At τ w F b t N o ds) (i : Nat) {n : Bool} (hd : ds[i]? = some (.bit n)) : w.cell? ⟨b, o + i, none⟩ = some (.bool n) := by
  obtain ⟨v, hv, hdv⟩ := h.cell i _ hd; cases hdv; exact hv
theorem At.str {w : World} {F : Nat → Prop} {b : Nat} {t : TypeId} {N o : Nat} {ds : List D} (h : At τ w F b t N o ds) (i : Nat) {n : List UInt8} (hd : ds[i]? = some (.str n)) : w.cell? ⟨b, o + i, none⟩ = some (.string (strOfL n)) := by
  obtain ⟨v, hv, hdv⟩ := h.cell i _ hd; cases hdv; exact hv

/-- Other blocks turn: the cells stay. -/
theorem At.kept {S : Nat → Prop} {w w' : World} {F : Nat → Prop} {b : Nat} {t : TypeId} {N o : Nat} {ds : List D} (h : At τ w F b t N o ds) (hk : Mv S w w') (hb : ¬ S b) (hF : ∀ x, F x → ¬ S x) : At τ w' F b t N o ds := by
  obtain ⟨cs, fp, h1, h2, h3, h4, h5⟩ := h.ex
  refine ⟨⟨cs, fp, hk.heap h1 hb, h2, fun i d hd => ?_, h4, h5⟩, h.room, h.nb, fun x hx => Nat.lt_of_lt_of_le (h.lt x hx) hk.size⟩
  obtain ⟨v, hv, hdv⟩ := h3 i d hd
  exact ⟨v, hv, hdv.kept (fun g hg hlt => hk.block g hlt (hF g (h4 i g hg)))⟩

/-- A cell is written: a number, a bool, a text, nil. -/
theorem At.set {w : World} {F : Nat → Prop} {b : Nat} {t : TypeId} {N o : Nat} {ds : List D} (h : At τ w F b t N o ds) (i : Nat) (hi : i < ds.length) (v : Value) (d : D) (hv : ∀ w' : World, DIs τ w' (fun _ => False) v d) :
    At τ (w.setCell ⟨b, o + i, none⟩ v) F b t N o (ds.set i d) := by
  obtain ⟨cs, fp, h1, h2, h3, h4, h5⟩ := h.ex
  have hroom := h.room
  refine ⟨⟨_, fun j x => fp j x ∧ j ≠ i, setCell_blk h1, by simpa using h2, fun j d' hd => ?_, fun j x hx => h4 j x hx.1, fun j k x hj hk => h5 j k x hj.1 hk.1⟩, by simpa using hroom, h.nb, fun x hx => by simpa [World.setCell] using h.lt x hx⟩
  by_cases hji : j = i
  · subst hji
    rw [List.getElem?_set_self hi] at hd
    cases hd
    exact ⟨v, by rw [Array.getElem?_setIfInBounds_self]; simp; omega, (hv _).mono (fun _ h => h.elim)⟩
  · rw [List.getElem?_set_ne (Ne.symm hji)] at hd
    obtain ⟨u, hu, hdu⟩ := h3 j d' hd
    refine ⟨u, by rw [Array.getElem?_setIfInBounds_ne (by omega)]; exact hu, ?_⟩
    refine (hdu.kept fun g hg hlt => ?_).mono (fun x hx => ⟨hx, hji⟩)
    exact Below.heap_setCell _ _ _ _ (fun e => h.nb (by rw [← show g = b from e]; exact h4 j g hg))

/-- Cells outside of a stretch are as they were. -/
def Out (b o k : Nat) (w w' : World) : Prop := ∀ i, (i < o ∨ o + k ≤ i) → w'.cell? ⟨b, i, none⟩ = w.cell? ⟨b, i, none⟩

/-- A part of the cells, with the blocks that are its own. -/
theorem At.part {w : World} {F : Nat → Prop} {b : Nat} {t : TypeId} {N o : Nat} {ds : List D} (h : At τ w F b t N o ds) (i k : Nat) (hk : i + k ≤ ds.length) :
    ∃ Fi : Nat → Prop, At τ w Fi b t N (o + i) ((ds.drop i).take k) ∧ (∀ x, Fi x → F x) ∧
      (∀ (S : Nat → Prop) (w' : World) (F' : Nat → Prop) (ds' : List D), At τ w' F' b t N (o + i) ds' → ds'.length = k → (∀ x, F' x → Fi x ∨ w.heap.size ≤ x) → Mv S w w' → (∀ x, S x → x = b ∨ Fi x ∨ ¬ F x) → Out b (o + i) k w w' →
        At τ w' (fun x => F x ∨ F' x) b t N o (ds.take i ++ ds' ++ ds.drop (i + k))) := by
  obtain ⟨cs, fp, h1, h2, h3, h4, h5⟩ := h.ex
  have hroom := h.room
  refine ⟨fun x => ∃ j, i ≤ j ∧ j < i + k ∧ fp j x, ⟨⟨cs, fun j x => j < k ∧ fp (i + j) x, h1, h2, fun j d hd => ?_, fun j x hx => ⟨i + j, by omega, by omega, hx.2⟩, fun j j' x hj hj' => by have := h5 _ _ x hj.2 hj'.2; omega⟩,
    by simp; omega, fun ⟨j, _, _, hx⟩ => h.nb (h4 j b hx), fun x ⟨j, _, _, hx⟩ => h.lt x (h4 j x hx)⟩, fun x ⟨j, _, _, hx⟩ => h4 j x hx, ?_⟩
  · rw [List.getElem?_take] at hd
    split at hd
    · rename_i hjk
      rw [List.getElem?_drop] at hd
      obtain ⟨v, hv, hdv⟩ := h3 (i + j) d hd
      exact ⟨v, by rw [Nat.add_assoc]; exact hv, hdv.mono (fun x hx => ⟨hjk, hx⟩)⟩
    · cases hd
  · intro S w' F' ds' h' hl hF' hmv hS hout
    obtain ⟨cs', fp', g1, g2, g3, g4, g5⟩ := h'.ex
    have hcell : ∀ j, (j < i ∨ i + k ≤ j) → cs'[o + j]? = cs[o + j]? := fun j hj => by
      have := hout (o + j) (by omega)
      rwa [cell_blk g1, cell_blk h1] at this
    refine ⟨⟨cs', fun j x => if i ≤ j ∧ j < i + k then fp' (j - i) x else fp j x, g1, g2, fun j d hd => ?_, fun j x hx => ?_, fun j j' x hj hj' => ?_⟩, ?_, ?_, ?_⟩
    · by_cases hin : i ≤ j ∧ j < i + k
      · rw [List.append_assoc, List.getElem?_append_right (by simp; omega), List.getElem?_append_left (by simp; omega), List.length_take] at hd
        obtain ⟨v, hv, hdv⟩ := g3 (j - i) d (by rw [← hd]; congr 1; omega)
        exact ⟨v, by rw [← hv]; congr 1; omega, hdv.mono (fun x hx => Eq.mpr (if_pos hin) hx)⟩
      · have hd' : ds[j]? = some d := by
          by_cases hji : j < i
          · rw [List.append_assoc, List.getElem?_append_left (by simp; omega), List.getElem?_take, if_pos hji] at hd
            exact hd
          · rw [List.append_assoc, List.getElem?_append_right (by simp; omega), List.getElem?_append_right (by simp; omega), List.getElem?_drop, List.length_take, hl] at hd
            rw [← hd]; congr 1; omega
        obtain ⟨v, hv, hdv⟩ := h3 j d hd'
        refine ⟨v, by rw [hcell j (by omega)]; exact hv, (hdv.kept fun g hg hlt => hmv.block g hlt fun hs => ?_).mono (fun x hx => Eq.mpr (if_neg hin) hx)⟩
        rcases hS g hs with rfl | ⟨j', hj1, hj2, hx⟩ | hx
        · exact h.nb (h4 j _ hg)
        · have := h5 _ _ g hg hx; omega
        · exact hx (h4 j g hg)
    · simp only at hx
      split at hx
      · exact .inr (g4 _ x hx)
      · exact .inl (h4 _ x hx)
    · simp only at hj hj'
      split at hj <;> split at hj'
      · have := g5 _ _ x hj hj'; omega
      · rename_i ha hb
        rcases hF' x (g4 _ x hj) with ⟨q, hq1, hq2, hq⟩ | hlt
        · have := h5 _ _ x hq hj'; omega
        · have := h.lt x (h4 _ x hj'); omega
      · rename_i ha hb
        rcases hF' x (g4 _ x hj') with ⟨q, hq1, hq2, hq⟩ | hlt
        · have := h5 _ _ x hq hj; omega
        · have := h.lt x (h4 _ x hj); omega
      · exact h5 _ _ x hj hj'
    · simp; omega
    · rintro (hx | hx)
      · exact h.nb hx
      · exact h'.nb hx
    · rintro x (hx | hx)
      · exact Nat.lt_of_lt_of_le (h.lt x hx) hmv.size
      · exact h'.lt x hx

end Go.Proofs.YthmdgbmodgfcmaaGreatDoor
