/-
  SAppend, SRep, SPlain, SReader, SEqs.
-/
import Derived.Deep.AppendLies
import Derived.Test.YthmdgbmodgfcmaaGreatDoorM1
import Derived.Test.YthmdgbmodgfcmaaGreatDoorM4
/-
  append(l, make([]T, 1)...): one zero element behind a row that is owned: a law on the model; nothing of the program's text.
-/
set_option linter.unusedSimpArgs false
namespace Go.Proofs.YthmdgbmodgfcmaaGreatDoor
open Go.RowKit

theorem zeroCells_one (z : Array Value) : (Builtin.zeroCells z 1).toList = z.toList := by
  apply List.ext_getElem?
  intro i
  simp only [Builtin.zeroCells, Array.toList_map, List.getElem?_map, Nat.one_mul]
  by_cases h : i < z.size
  · rw [Array.getElem?_toList, Array.getElem?_eq_getElem (by simpa using h)]
    simp [Nat.mod_eq_of_lt h, h]
  · rw [Array.getElem?_toList, Array.getElem?_eq_none (by simpa using h)]
    simp [h]

/-- THE LAW. -/
theorem run_append_zero {P : Program} (w : World) (t ti ty : TypeId) (e : TypeId) (i : TypeInfo) (z : Value) (k : IntKind) (ht : P.underlying t = some (.slice e)) (hti : P.underlying ti = some (.int k)) (hi : P.info? e = some i) (hz : i.zero = some z)
    (hzs : z.cells.size = i.size) (hsz : 0 < i.size) (h1 : ∀ u ∈ z.cells.toList, u.oneCell' = true) (hb48 : i.bytes ≤ 65536)
    (v : Value) (n : Nat) (xs : List Value) (hown : w.ownsRow 0 e i.size v n xs) (hn : n ≤ 2000000) :
    ∃ g cap w', (Builtin.append_ #[t, ti] ty #[v, .int .i64 1]).run P w = .ok (.slice (some ⟨g, 0, none⟩) (n + 1) cap) w' ∧
      w'.ownsRow 0 e i.size (.slice (some ⟨g, 0, none⟩) (n + 1) cap) (n + 1) (xs ++ z.cells.toList) ∧ w.grownBy w' v.ownBlock ∧ (v.ownBlock = some g ∨ g = w.heap.size) ∧ g < w'.heap.size := by
  have hzl : z.cells.toList.length = 1 * i.size := by simpa using hzs
  have hlen : (xs ++ z.cells.toList).length = (n + 1) * i.size := by rw [List.length_append, hown.1, hzl, Nat.add_mul]
  have h63 : n + 1 ≤ maxLen := by unfold maxLen; omega
  have hbytes : (n + 1) * i.bytes ≤ 140737488355328 := by
    have : (n + 1) * i.bytes ≤ 2000001 * 65536 := Nat.mul_le_mul (by omega) hb48
    omega
  have hw1 : IntKind.i64.wrap 1 = 1 := by decide
  have hnb : ¬ ((281474976710656 : Int) < ((i.bytes : Nat) : Int)) := by omega
  have hne : ¬ i.size = 0 := by omega
  have grown : ∀ (old : Nat), old < n + 1 → ∀ (row : Option Nat),
      (w.drew.alloc (.cells (xs.toArray ++ Builtin.zeroCells z.cells 1 ++ Builtin.zeroCells z.cells (grownCap w (n + 1) old e - (n + 1))) e)).ownsRow 0 e i.size
        (.slice (some ⟨w.heap.size, 0, none⟩) (n + 1) (grownCap w (n + 1) old e)) (n + 1) (xs ++ z.cells.toList) ∧
      w.grownBy (w.drew.alloc (.cells (xs.toArray ++ Builtin.zeroCells z.cells 1 ++ Builtin.zeroCells z.cells (grownCap w (n + 1) old e - (n + 1))) e)) row := by
    intro old ho row
    have hge := grownCap_ge w (n + 1) old e
    have hcm : grownCap w (n + 1) old e ≤ maxLen := grownCap_le_maxLen w (n + 1) old e h63
    refine ⟨⟨hlen, .inr ⟨w.heap.size, _, _, rfl, Nat.zero_le _, heap_alloc_new w.drew _, hge, hcm, ?_, ?_⟩⟩, ⟨rfl, rfl, rfl, by simp, fun k hk _ => Below.heap_alloc w.drew _ k hk⟩⟩
    · simp only [Array.size_append, List.size_toArray, size_zeroCells, hzs, hown.1, ← Nat.add_mul]
      congr 1
      omega
    · simp only [Array.toList_append, zeroCells_one]
      rw [← hlen]
      exact List.take_left
  rcases hown.2 with ⟨rfl, rfl⟩ | ⟨g, cap, cur, rfl, hbg, hg, hnc, hcm, hcs, htake⟩
  · have hx : xs = [] := List.eq_nil_of_length_eq_zero (by simpa using hown.1)
    subst hx
    have hf := growslice_fits (need := 1) (old := 0) (bytes := i.bytes) (by omega) (by omega)
    have hf' : ¬ (281474976710656 < Builtin.nextslicecap 1 0 * i.bytes) := by simpa using Nat.not_lt.2 hf
    have hgr := grown 0 (by omega) (Value.ownBlock (.slice none 0 0))
    refine ⟨w.heap.size, _, _, ?_, hgr.1, hgr.2, .inr rfl, by simp⟩
    simp [Builtin.append_, run_underlying ht, run_underlying hti, sizeOf, typeInfo, hi, hz, asInt, asIntOf, hw1, hnb, hne, hf', Builtin.firstCells, zeroValue, Question.forced, newRow, grownCap]
    intro hbig
    exact absurd hbig (by decide)
  · by_cases hroom : n + 1 ≤ cap
    · have hfit : n * i.size + z.cells.toList.length ≤ cur.size := by rw [hzl, hcs, ← Nat.add_mul]; exact Nat.mul_le_mul_right _ hroom
      have hst := run_storeCells_at P g (n * i.size) e z.cells.toList 0 cur w hg (by simpa using hfit) h1
      simp only [Nat.add_zero] at hst
      refine ⟨g, cap, w.setRow g (cur.toList.take (n * i.size) ++ z.cells.toList ++ cur.toList.drop (n * i.size + z.cells.toList.length)).toArray, ?_, ⟨hlen, .inr ⟨g, cap, _, rfl, hbg, setRow_heap w g cur _ e _ hg, hroom, hcm, ?_, ?_⟩⟩, ⟨rfl, rfl, rfl, by simp, fun k _ hk => setRow_other w g k _ (fun e => hk (by simp [Value.ownBlock, e]))⟩, .inl rfl, ?_⟩
      · simp [Builtin.append_, run_underlying ht, run_underlying hti, sizeOf, typeInfo, hi, hz, asInt, asIntOf, hw1, hnb, hne, hroom, zeroValue, Addr.add_lit, zeroCells_one, hst]
      · simp only [List.size_toArray, List.length_append, List.length_take, List.length_drop, Array.length_toList] at hfit ⊢
        omega
      · rw [htake, ← hlen]
        exact List.take_left
      · have := lt_of_block hg
        simpa using this
    · have holds : ∀ j u, xs[j]? = some u → w.cell? ((⟨g, 0, none⟩ : Addr).add j) = some u := hown.cells (g := g) rfl
      have hf := growslice_fits (need := n + 1) (old := cap) (bytes := i.bytes) (by omega) hbytes
      have hf' : ¬ (281474976710656 < Builtin.nextslicecap (n + 1) cap * i.bytes) := Nat.not_lt.2 hf
      have h63' : ¬ (9223372036854775807 < ((n : Int) + 1)) := by omega
      have hold := run_firstCells_some (P := P) w.drew i.size n ⟨g, 0, none⟩ n cap xs hown.1 (by simpa using holds)
      have hgr := grown cap (by omega) (Value.ownBlock (.slice (some ⟨g, 0, none⟩) n cap))
      refine ⟨w.heap.size, _, _, ?_, hgr.1, hgr.2, .inr rfl, by simp⟩
      simp [Builtin.append_, run_underlying ht, run_underlying hti, sizeOf, typeInfo, hi, hz, asInt, asIntOf, hw1, hnb, hne, hroom, hf', h63', hold, zeroValue, Question.forced, newRow, grownCap]
      intro hbig
      rw [show max (1 : Int) 0 = 1 from by decide] at hbig
      omega

/-- At the list of a plain region's operations. -/
theorem wpList_append_zero {P : Program} {w : World} {ops : Array Oper} {rest : List Oper} {o : Oper} {a : Act} {Q : Exit → Act → World → Prop} (hgd : o.guard = none) (s x : Operand) (t ti : TypeId)
    (ho : o.op = .call { callee := .builtin .append, args := #[s, x], argTypes := #[t, ti] })
    (e : TypeId) (i : TypeInfo) (z : Value) (k : IntKind) (ht : P.underlying t = some (.slice e)) (hti : P.underlying ti = some (.int k)) (hi : P.info? e = some i) (hz : i.zero = some z)
    (hzs : z.cells.size = i.size) (hsz : 0 < i.size) (h1 : ∀ u ∈ z.cells.toList, u.oneCell' = true) (hb48 : i.bytes ≤ 65536)
    (v : Value) (n : Nat) (xs : List Value) (hs : a.eval s = v) (hx : a.eval x = .int .i64 1) (hown : w.ownsRow 0 e i.size v n xs) (hn : n ≤ 2000000)
    (h : ∀ g cap w', w'.ownsRow 0 e i.size (.slice (some ⟨g, 0, none⟩) (n + 1) cap) (n + 1) (xs ++ z.cells.toList) → w.grownBy w' v.ownBlock → (v.ownBlock = some g ∨ g = w.heap.size) → g < w'.heap.size → wpList P ops Q rest (a.put o.dst (.slice (some ⟨g, 0, none⟩) (n + 1) cap)) w') : wpList P ops Q (o :: rest) a w := by
  refine wpList_plain hgd fun _ hK => ?_
  obtain ⟨g, cap, w', hr, h2, h3, h4, h5⟩ := run_append_zero (P := P) w t ti o.type e i z k ht hti hi hz hzs hsz h1 hb48 v n xs hown hn
  unfold Oper.wp execOp
  simp only [ho, resolve, invoke, builtin, Sem.run_bind, Sem.run_pure, Result.andThen_ok, List.map_toArray, List.map_cons, List.map_nil, hs, hx, hr]
  exact hK _ _ (h g cap w' h2 h3 h4 h5)

end Go.Proofs.YthmdgbmodgfcmaaGreatDoor
/-
  Trees in memory: what a cell, a row of cells holds, and which blocks it takes; what a step leaves as it was. Nothing of the program's text.
-/
namespace Go.Proofs.YthmdgbmodgfcmaaGreatDoor
open Go.RowKit

/-- The types of what rows hold. -/
inductive Ty where
  | str | ast | bool | arg | stmt | stmts | decl | var | int | unit
  deriving DecidableEq

/-- A cell's datum. -/
inductive D where
  | num (n : Int)
  | bit (b : Bool)
  | str (s : List UInt8)
  | row (t : Ty) (els : List (List D))

def strOfL (l : List UInt8) : ByteArray := ⟨l.toArray⟩

/-- Which type numbers the element types have, and how many cells. -/
structure Tys where
  id : Ty → TypeId
  size : Ty → Nat

/-- What a value is, its blocks being among F. -/
inductive DIs (τ : Tys) (w : World) : (Nat → Prop) → Value → D → Prop where
  | num (F : Nat → Prop) (n : Int) : DIs τ w F (.int .i64 n) (.num n)
  | bit (F : Nat → Prop) (b : Bool) : DIs τ w F (.bool b) (.bit b)
  | str (F : Nat → Prop) (s : List UInt8) : DIs τ w F (.string (strOfL s)) (.str s)
  | nil (F : Nat → Prop) (t : Ty) : DIs τ w F (.slice none 0 0) (.row t [])
  | row (F Fe : Nat → Prop) (t : Ty) (els : List (List D)) (g cap : Nat) (cur : Array Value) (hg : w.heap[g]? = some (.cells cur (τ.id t) (0, 0))) (h0 : 0 < els.length) (hn : els.length ≤ cap) (hc : cap ≤ maxLen) (hs : cur.size = cap * τ.size t)
      (hel : ∀ e ∈ els, e.length = τ.size t) (hF : F g) (hFe : ∀ x, Fe x → F x ∧ x ≠ g) (hcells : ∀ (i : Nat) (d : D), els.flatten[i]? = some d → ∃ v, cur[i]? = some v) 
      (hd : ∀ (i : Nat) (d : D) (v : Value), els.flatten[i]? = some d → cur[i]? = some v → DIs τ w Fe v d) : DIs τ w F (.slice (some ⟨g, 0, none⟩) els.length cap) (.row t els)

/-- Blocks that were there and are not in S are as they were. -/
structure Mv (S : Nat → Prop) (w w' : World) : Prop where
  os : w'.os = w.os
  tape : w'.tape = w.tape
  output : w'.output = w.output
  size : w.heap.size ≤ w'.heap.size
  block : ∀ k, k < w.heap.size → ¬ S k → w'.heap[k]? = w.heap[k]?

theorem Mv.refl (S : Nat → Prop) (w : World) : Mv S w w := ⟨rfl, rfl, rfl, Nat.le_refl _, fun _ _ _ => rfl⟩
theorem Mv.trans {S T : Nat → Prop} {a b c : World} (h : Mv S a b) (k : Mv T b c) (ht : ∀ x, T x → S x ∨ a.heap.size ≤ x) : Mv S a c :=
  ⟨k.os.trans h.os, k.tape.trans h.tape, k.output.trans h.output, Nat.le_trans h.size k.size, fun i hi hn =>
    (k.block i (Nat.lt_of_lt_of_le hi h.size) (fun hx => (ht i hx).elim hn (fun h1 => by omega))).trans (h.block i hi hn)⟩
theorem Mv.mono {S T : Nat → Prop} {a b : World} (h : Mv S a b) (ht : ∀ x, S x → T x ∨ a.heap.size ≤ x) : Mv T a b := (Mv.refl T a).trans h ht
theorem Mv.of_kept {S : List Nat} {w w' : World} (h : Kept S w w') : Mv (· ∈ S) w w' := ⟨h.os, h.tape, h.output, h.size, h.block⟩
theorem Mv.kept {w w' : World} (h : Mv (fun _ => False) w w') : Kept [] w w' := ⟨h.os, h.tape, h.output, h.size, fun k hk _ => h.block k hk id⟩
theorem Mv.heap {S : Nat → Prop} {w w' : World} (h : Mv S w w') {k : Nat} {o : Obj} (ho : w.heap[k]? = some o) (hn : ¬ S k) : w'.heap[k]? = some o :=
  (h.block k (Array.getElem?_eq_some_iff.1 ho).1 hn).trans ho
theorem Mv.alloc (S : Nat → Prop) (w : World) (o : Obj) : Mv S w (w.alloc o) := ⟨rfl, rfl, rfl, by simp, fun _ hk _ => Below.heap_alloc w o _ hk⟩
theorem Mv.drew (S : Nat → Prop) (w : World) : Mv S w w.drew := ⟨rfl, rfl, rfl, Nat.le_refl _, fun _ _ _ => rfl⟩
theorem Mv.drewN (S : Nat → Prop) (w : World) (n : Nat) : Mv S w (w.drewN n) := ⟨rfl, rfl, rfl, Nat.le_refl _, fun _ _ _ => rfl⟩
theorem Mv.setCell (w : World) (p : Addr) (u : Value) : Mv (· = p.block) w (w.setCell p u) :=
  ⟨rfl, rfl, rfl, by simp [World.setCell], fun _ _ hn => Below.heap_setCell _ _ _ _ (by simpa using hn)⟩
theorem Mv.grown {w w' : World} {row : Option Nat} (h : w.grownBy w' row) : Mv (fun x => row = some x) w w' :=
  ⟨h.os, h.tape, h.output, h.size, fun k hk hn => h.block k hk (fun e => hn e.symm)⟩

variable {τ : Tys}

theorem DIs.mono {w : World} {F : Nat → Prop} {v : Value} {d : D} (h : DIs τ w F v d) : ∀ {G : Nat → Prop}, (∀ x, F x → G x) → DIs τ w G v d := by
  cases h with
  | num _ n => exact fun _ => .num _ n
  | bit _ n => exact fun _ => .bit _ n
  | str _ n => exact fun _ => .str _ n
  | nil _ t => exact fun _ => .nil _ t
  | row _ Fe t els g cap cur hg h0 hn hc hs hel hF hFe hcells hd => exact fun hG => .row _ Fe t els g cap cur hg h0 hn hc hs hel (hG _ hF) (fun x hx => ⟨hG _ (hFe x hx).1, (hFe x hx).2⟩) hcells hd

theorem DIs.kept {w w' : World} {F : Nat → Prop} {v : Value} {d : D} (h : DIs τ w F v d) (hk : ∀ g, F g → g < w.heap.size → w'.heap[g]? = w.heap[g]?) : DIs τ w' F v d := by
  induction h with
  | num _ n => exact .num _ n
  | bit _ n => exact .bit _ n
  | str _ n => exact .str _ n
  | nil _ t => exact .nil _ t
  | row F Fe t els g cap cur hg h0 hn hc hs hel hF hFe hcells hd ih =>
    exact .row F Fe t els g cap cur ((hk g hF (lt_of_block hg)).trans hg) h0 hn hc hs hel hF hFe hcells (fun i d v h1 h2 => ih i d v h1 h2 (fun x hx => hk x (hFe x hx).1))

/-- Its blocks may be taken to be there. -/
theorem DIs.lt {w : World} {F : Nat → Prop} {v : Value} {d : D} (h : DIs τ w F v d) : DIs τ w (fun x => F x ∧ x < w.heap.size) v d := by
  induction h with
  | num _ n => exact .num _ n
  | bit _ n => exact .bit _ n
  | str _ n => exact .str _ n
  | nil _ t => exact .nil _ t
  | row F Fe t els g cap cur hg h0 hn hc hs hel hF hFe hcells hd ih =>
    exact .row _ (fun x => Fe x ∧ x < w.heap.size) t els g cap cur hg h0 hn hc hs hel ⟨hF, lt_of_block hg⟩ (fun x hx => ⟨⟨(hFe x hx.1).1, hx.2⟩, (hFe x hx.1).2⟩) hcells ih

/-- Cells from o on, in the block b: what they hold; each cell has blocks of its own, all of them among F. -/
structure At (τ : Tys) (w : World) (F : Nat → Prop) (b : Nat) (t : TypeId) (N o : Nat) (ds : List D) : Prop where
  ex : ∃ (cs : Array Value) (fp : Nat → Nat → Prop), w.heap[b]? = some (.cells cs t (0, 0)) ∧ cs.size = N ∧ (∀ i d, ds[i]? = some d → ∃ v, cs[o + i]? = some v ∧ DIs τ w (fp i) v d) ∧
    (∀ i x, fp i x → F x) ∧ (∀ i j x, fp i x → fp j x → i = j)
  room : o + ds.length ≤ N
  nb : ¬ F b
  lt : ∀ x, F x → x < w.heap.size

theorem At.blk {w : World} {F : Nat → Prop} {b : Nat} {t : TypeId} {N o : Nat} {ds : List D} (h : At τ w F b t N o ds) : ∃ cs, w.heap[b]? = some (.cells cs t (0, 0)) ∧ cs.size = N := by
  obtain ⟨cs, fp, h1, h2, _⟩ := h.ex
  exact ⟨cs, h1, h2⟩

theorem At.blt {w : World} {F : Nat → Prop} {b : Nat} {t : TypeId} {N o : Nat} {ds : List D} (h : At τ w F b t N o ds) : b < w.heap.size := by
  obtain ⟨cs, h1, _⟩ := h.blk
  exact lt_of_block h1

theorem At.cell {w : World} {F : Nat → Prop} {b : Nat} {t : TypeId} {N o : Nat} {ds : List D} (h : At τ w F b t N o ds) (i : Nat) (d : D) (hd : ds[i]? = some d) : ∃ v, w.cell? ⟨b, o + i, none⟩ = some v ∧ DIs τ w F v d := by
  obtain ⟨cs, fp, h1, h2, h3, h4, h5⟩ := h.ex
  obtain ⟨v, hv, hdv⟩ := h3 i d hd
  exact ⟨v, by rw [cell_blk h1]; exact hv, hdv.mono (h4 i)⟩

theorem At.free {w : World} {F : Nat → Prop} {b : Nat} {t : TypeId} {N o : Nat} {ds : List D} (h : At τ w F b t N o ds) (i : Nat) : w.frozen? ⟨b, i, none⟩ = false := by
  obtain ⟨cs, h1, _⟩ := h.blk
  exact free_blk h1 i

theorem At.num {w : World} {F : Nat → Prop} {b : Nat} {t : TypeId} {N o : Nat} {ds : List D} (h : At τ w F b t N o ds) (i : Nat) {n : Int} (hd : ds[i]? = some (.num n)) : w.cell? ⟨b, o + i, none⟩ = some (.int .i64 n) := by
  obtain ⟨v, hv, hdv⟩ := h.cell i _ hd; cases hdv; exact hv
theorem At.bit {w : World} {F : Nat → Prop} {b : Nat} {t : TypeId} {N o : Nat} {ds : List D} (h : At τ w F b t N o ds) (i : Nat) {n : Bool} (hd : ds[i]? = some (.bit n)) : w.cell? ⟨b, o + i, none⟩ = some (.bool n) := by
  obtain ⟨v, hv, hdv⟩ := h.cell i _ hd; cases hdv; exact hv
theorem At.str {w : World} {F : Nat → Prop} {b : Nat} {t : TypeId} {N o : Nat} {ds : List D} (h : At τ w F b t N o ds) (i : Nat) {n : List UInt8} (hd : ds[i]? = some (.str n)) : w.cell? ⟨b, o + i, none⟩ = some (.string (strOfL n)) := by
  obtain ⟨v, hv, hdv⟩ := h.cell i _ hd; cases hdv; exact hv

/-- Other blocks turn: the cells stay. -/
theorem At.kept {S : Nat → Prop} {w w' : World} {F : Nat → Prop} {b : Nat} {t : TypeId} {N o : Nat} {ds : List D} (h : At τ w F b t N o ds) (hk : Mv S w w') (hb : ¬ S b) (hF : ∀ x, F x → ¬ S x) : At τ w' F b t N o ds := by
  obtain ⟨cs, fp, h1, h2, h3, h4, h5⟩ := h.ex
  refine ⟨⟨cs, fp, hk.heap h1 hb, h2, fun i d hd => ?_, h4, h5⟩, h.room, h.nb, fun x hx => Nat.lt_of_lt_of_le (h.lt x hx) hk.size⟩
  obtain ⟨v, hv, hdv⟩ := h3 i d hd
  exact ⟨v, hv, hdv.kept (fun g hg hlt => hk.block g hlt (hF g (h4 i g hg)))⟩

/-- A cell is written: a number, a bool, a text, nil. -/
theorem At.set {w : World} {F : Nat → Prop} {b : Nat} {t : TypeId} {N o : Nat} {ds : List D} (h : At τ w F b t N o ds) (i : Nat) (hi : i < ds.length) (v : Value) (d : D) (hv : ∀ w' : World, DIs τ w' (fun _ => False) v d) :
    At τ (w.setCell ⟨b, o + i, none⟩ v) F b t N o (ds.set i d) := by
  obtain ⟨cs, fp, h1, h2, h3, h4, h5⟩ := h.ex
  have hroom := h.room
  refine ⟨⟨_, fun j x => fp j x ∧ j ≠ i, setCell_blk h1, by simpa using h2, fun j d' hd => ?_, fun j x hx => h4 j x hx.1, fun j k x hj hk => h5 j k x hj.1 hk.1⟩, by simpa using hroom, h.nb, fun x hx => by simpa [World.setCell] using h.lt x hx⟩
  by_cases hji : j = i
  · subst hji
    rw [List.getElem?_set_self hi] at hd
    cases hd
    exact ⟨v, by rw [Array.getElem?_setIfInBounds_self]; simp; omega, (hv _).mono (fun _ h => h.elim)⟩
  · rw [List.getElem?_set_ne (Ne.symm hji)] at hd
    obtain ⟨u, hu, hdu⟩ := h3 j d' hd
    refine ⟨u, by rw [Array.getElem?_setIfInBounds_ne (by omega)]; exact hu, ?_⟩
    refine (hdu.kept fun g hg hlt => ?_).mono (fun x hx => ⟨hx, hji⟩)
    exact Below.heap_setCell _ _ _ _ (fun e => h.nb (by rw [← show g = b from e]; exact h4 j g hg))

/-- Cells outside of a stretch are as they were. -/
def Out (b o k : Nat) (w w' : World) : Prop := ∀ i, (i < o ∨ o + k ≤ i) → w'.cell? ⟨b, i, none⟩ = w.cell? ⟨b, i, none⟩

/-- A part of the cells, with the blocks that are its own. -/
theorem At.part {w : World} {F : Nat → Prop} {b : Nat} {t : TypeId} {N o : Nat} {ds : List D} (h : At τ w F b t N o ds) (i k : Nat) (hk : i + k ≤ ds.length) :
    ∃ Fi : Nat → Prop, At τ w Fi b t N (o + i) ((ds.drop i).take k) ∧ (∀ x, Fi x → F x) ∧
      (∀ (S : Nat → Prop) (w' : World) (F' : Nat → Prop) (ds' : List D), At τ w' F' b t N (o + i) ds' → ds'.length = k → (∀ x, F' x → Fi x ∨ w.heap.size ≤ x) → Mv S w w' → (∀ x, S x → x = b ∨ Fi x ∨ ¬ F x) → Out b (o + i) k w w' →
        At τ w' (fun x => F x ∨ F' x) b t N o (ds.take i ++ ds' ++ ds.drop (i + k))) := by
  obtain ⟨cs, fp, h1, h2, h3, h4, h5⟩ := h.ex
  have hroom := h.room
  refine ⟨fun x => ∃ j, i ≤ j ∧ j < i + k ∧ fp j x, ⟨⟨cs, fun j x => j < k ∧ fp (i + j) x, h1, h2, fun j d hd => ?_, fun j x hx => ⟨i + j, by omega, by omega, hx.2⟩, fun j j' x hj hj' => by have := h5 _ _ x hj.2 hj'.2; omega⟩,
    by simp; omega, fun ⟨j, _, _, hx⟩ => h.nb (h4 j b hx), fun x ⟨j, _, _, hx⟩ => h.lt x (h4 j x hx)⟩, fun x ⟨j, _, _, hx⟩ => h4 j x hx, ?_⟩
  · rw [List.getElem?_take] at hd
    split at hd
    · rename_i hjk
      rw [List.getElem?_drop] at hd
      obtain ⟨v, hv, hdv⟩ := h3 (i + j) d hd
      exact ⟨v, by rw [Nat.add_assoc]; exact hv, hdv.mono (fun x hx => ⟨hjk, hx⟩)⟩
    · cases hd
  · intro S w' F' ds' h' hl hF' hmv hS hout
    obtain ⟨cs', fp', g1, g2, g3, g4, g5⟩ := h'.ex
    have hcell : ∀ j, (j < i ∨ i + k ≤ j) → cs'[o + j]? = cs[o + j]? := fun j hj => by
      have := hout (o + j) (by omega)
      rwa [cell_blk g1, cell_blk h1] at this
    refine ⟨⟨cs', fun j x => if i ≤ j ∧ j < i + k then fp' (j - i) x else fp j x, g1, g2, fun j d hd => ?_, fun j x hx => ?_, fun j j' x hj hj' => ?_⟩, ?_, ?_, ?_⟩
    · by_cases hin : i ≤ j ∧ j < i + k
      · rw [List.append_assoc, List.getElem?_append_right (by simp; omega), List.getElem?_append_left (by simp; omega), List.length_take] at hd
        obtain ⟨v, hv, hdv⟩ := g3 (j - i) d (by rw [← hd]; congr 1; omega)
        exact ⟨v, by rw [← hv]; congr 1; omega, hdv.mono (fun x hx => Eq.mpr (if_pos hin) hx)⟩
      · have hd' : ds[j]? = some d := by
          by_cases hji : j < i
          · rw [List.append_assoc, List.getElem?_append_left (by simp; omega), List.getElem?_take, if_pos hji] at hd
            exact hd
          · rw [List.append_assoc, List.getElem?_append_right (by simp; omega), List.getElem?_append_right (by simp; omega), List.getElem?_drop, List.length_take, hl] at hd
            rw [← hd]; congr 1; omega
        obtain ⟨v, hv, hdv⟩ := h3 j d hd'
        refine ⟨v, by rw [hcell j (by omega)]; exact hv, (hdv.kept fun g hg hlt => hmv.block g hlt fun hs => ?_).mono (fun x hx => Eq.mpr (if_neg hin) hx)⟩
        rcases hS g hs with rfl | ⟨j', hj1, hj2, hx⟩ | hx
        · exact h.nb (h4 j _ hg)
        · have := h5 _ _ g hg hx; omega
        · exact hx (h4 j g hg)
    · simp only at hx
      split at hx
      · exact .inr (g4 _ x hx)
      · exact .inl (h4 _ x hx)
    · simp only at hj hj'
      split at hj <;> split at hj'
      · have := g5 _ _ x hj hj'; omega
      · rename_i ha hb
        rcases hF' x (g4 _ x hj) with ⟨q, hq1, hq2, hq⟩ | hlt
        · have := h5 _ _ x hq hj'; omega
        · have := h.lt x (h4 _ x hj'); omega
      · rename_i ha hb
        rcases hF' x (g4 _ x hj') with ⟨q, hq1, hq2, hq⟩ | hlt
        · have := h5 _ _ x hq hj; omega
        · have := h.lt x (h4 _ x hj); omega
      · exact h5 _ _ x hj hj'
    · simp; omega
    · rintro (hx | hx)
      · exact h.nb hx
      · exact h'.nb hx
    · rintro x (hx | hx)
      · exact Nat.lt_of_lt_of_le (h.lt x hx) hmv.size
      · exact h'.lt x hx

end Go.Proofs.YthmdgbmodgfcmaaGreatDoor
/-
  How a program's words are read, as the chapter's grammar says: one function on goals, by fuel; what is read is cells' data. Nothing of the program's text.
-/
namespace Go.Proofs.YthmdgbmodgfcmaaGreatDoor

abbrev Res := Except Mis (List D × Nat)

/-- A text and its words. -/
structure Cx where
  len : Nat
  text : List UInt8
  T : List Tok

def Cx.kindAt (c : Cx) (i : Nat) : Nat := match c.T[i]? with | some t => t.kind | none => 0
def Cx.textAt (c : Cx) (i : Nat) : List UInt8 := match c.T[i]? with | some t => t.text | none => []
def Cx.numAt (c : Cx) (i : Nat) : Nat := match c.T[i]? with | some t => t.n | none => 0
def Cx.keyAt (c : Cx) (i : Nat) : List UInt8 := match c.T[i]? with | some t => if t.kind = 4 then t.text else [] | none => []
def Cx.place (c : Cx) (i : Nat) : Nat := match c.T[i]? with | some t => t.at_ | none => c.len
def Cx.refuse (c : Cx) (i : Nat) : Mis := (if i < c.T.length then 30 else 21, c.place i)

def bnd (r : Res) (k : List D → Nat → Res) : Res := match r with | .error e => .error e | .ok (d, a) => k d a
theorem bnd_ok (d : List D) (a : Nat) (k : List D → Nat → Res) : bnd (.ok (d, a)) k = k d a := rfl
theorem bnd_error (e : Mis) (k : List D → Nat → Res) : bnd (.error e) k = .error e := rfl

def need (c : Cx) (s : List UInt8) (i : Nat) (k : Nat → Res) : Res := if c.keyAt i = s then k (i + 1) else .error (c.refuse i)

/- the zero trees -/
def zRef : List D := [.row .str [], .row .ast [], .row .bool []]
def zAst : List D := [.num 0, .num 0, .str [], .str [], .row .str [], .row .ast [], .row .bool [], .row .ast [], .row .arg []]
def zArg : List D := .bit false :: .bit false :: zAst
def zVar : List D := [.str [], .bit false] ++ zAst ++ [.bit false] ++ zAst ++ [.bit false, .row .int []]
def zDecl : List D := [.num 0, .str [], .row .var [], .num 0]
def zStmt : List D := [.num 0, .num 0, .str [], .str [], .num 0, .bit false, .bit false, .bit false] ++ zRef ++ zAst ++ [.row .ast [], .row .arg []] ++ zDecl ++ [.row .stmts [], .row .stmt []]
def zUnit : List D := [.num 0, .num 0, .str [], .str [], .row .str [], .bit false] ++ zAst ++ zDecl ++ [.row .decl [], .row .stmt []]

def zero : Ty → List D
  | .str => [.str []] | .ast => zAst | .bool => [.bit false] | .arg => zArg | .stmt => zStmt | .stmts => [.row .stmt []] | .decl => zDecl | .var => zVar | .int => [.num 0] | .unit => zUnit

def aNum (n : Int) : List D := [.num 1, .num n, .str [], .str [], .row .str [], .row .ast [], .row .bool [], .row .ast [], .row .arg []]
def aRef (r : List D) : List D := [.num 2, .num 0, .str [], .str []] ++ r ++ [.row .ast [], .row .arg []]
def aUnary (op : List UInt8) (kids : D) : List D := [.num 3, .num 0, .str op, .str [], .row .str [], .row .ast [], .row .bool [], kids, .row .arg []]
def aBinary (op : List UInt8) (a b : List D) : List D := [.num 4, .num 0, .str op, .str [], .row .str [], .row .ast [], .row .bool [], .row .ast [a, b], .row .arg []]
def aCond (a b c : List D) : List D := [.num 5, .num 0, .str [], .str [], .row .str [], .row .ast [], .row .bool [], .row .ast [a, b, c], .row .arg []]
def aLen (op : List UInt8) (r : List D) : List D := [.num 6, .num 0, .str op, .str []] ++ r ++ [.row .ast [], .row .arg []]
def aPoll (op : List UInt8) (r : List D) (args : D) : List D := [.num 7, .num 0, .str op, .str []] ++ r ++ [.row .ast [], args]
def aRun (nm : D) (kids : D) : List D := [.num 8, .num 0, nm, .str [], .row .str [], .row .ast [], .row .bool [], kids, .row .arg []]
def aAt (nm : D) (label : D) (kids : D) : List D := [.num 9, .num 0, nm, label, .row .str [], .row .ast [], .row .bool [], kids, .row .arg []]
def aWord (w : List UInt8) : List D := [.num 10, .num 0, .str w, .str [], .row .str [], .row .ast [], .row .bool [], .row .ast [], .row .arg []]

/-- The level of an operator; 0: it is none. -/
def levelOf (op : List UInt8) : Nat :=
  if op = [124, 124] then 1 else if op = [38, 38] then 2 else if op = [124] then 3 else if op = [94] then 4 else if op = [38] then 5
  else if op = [61, 61] ∨ op = [33, 61] then 6 else if op = [60] ∨ op = [60, 61] ∨ op = [62] ∨ op = [62, 61] then 7 else if op = [60, 60] ∨ op = [62, 62] then 8
  else if op = [43] ∨ op = [45] then 9 else if op = [42] ∨ op = [47] ∨ op = [37] then 10 else 0

/-- The type of a word; 0: it is none. -/
def typeOf (s : List UInt8) : Nat :=
  if s = [98, 105, 116] then 1 else if s = [98, 111, 111, 108] then 2 else if s = [98, 121, 116, 101] then 3 else if s = [115, 104, 111, 114, 116] then 4 else if s = [105, 110, 116] then 5 else if s = [109, 116, 121, 112, 101] then 6 else if s = [112, 105, 100] then 7 else if s = [99, 104, 97, 110] then 8 else 0

/-- What is read: a part of the grammar, and what lies there already. -/
inductive Goal where
  | name | expr | operators (least : Nat) | more (least : Nat) (e : List D) | unary | primary | parens | cond (e : List D) | run | length | named | label (e : List D) | poll (e : List D)
  | ref | refMore (r : List D) | part (r : List D) | index | arg
  | row (g : Goal) (t : Ty) (els : List (List D)) | rowMore (g : Goal) (t : Ty) (els : List (List D)) | inParens (g : Goal) (t : Ty) | inBraces (g : Goal) (t : Ty) | message (g : Goal) (t : Ty)
  | plainType | decls | declsMore (els : List (List D)) | decl | variable | beginning (v : List D)
  | body | steps | stepsMore (els : List (List D)) | step | unless (s : List D) | stmt | options (fin : List UInt8) | optionsMore (fin : List UInt8) (els : List (List D)) | option
  | simple (s : List D) | assertion (s : List D) | print (s : List D) | namedStmt (s : List D) | onVariable (s : List D) | received (s : List D)
  | program (els : List (List D)) | unit | mtypeOrDecl (u : List D) | typedef (u : List D) | proctype (u : List D) | active (u : List D) | inline (u : List D) | ltl (u : List D)

/-- Semicolons and arrows, as many as there are. -/
def sepsF (c : Cx) : Nat → Nat → Nat
  | 0, i => i
  | f + 1, i => if c.keyAt i = [59] ∨ c.keyAt i = [45, 62] then sepsF c f (i + 1) else i
def seps (c : Cx) (i : Nat) : Nat := sepsF c (c.T.length + 1) i

/-- The brace that matches, from i on, so many being open; none: there is none. -/
def braceF (c : Cx) : Nat → Nat → Nat → Option Nat
  | 0, _, _ => none
  | f + 1, opn, i =>
    if c.keyAt i = [123] then braceF c f (opn + 1) (i + 1)
    else if c.keyAt i = [125] then (if opn = 1 then some i else braceF c f (opn - 1) (i + 1))
    else if i < c.T.length then braceF c f opn (i + 1) else none

def splice (ds : List D) (i : Nat) (es : List D) : List D := ds.take i ++ es ++ ds.drop (i + es.length)

def rowOf1 (d : D) : List (List D) := match d with | .row _ els => els | _ => []
def refNames (r : List D) : List (List D) := rowOf1 (r.getD 0 (.num 0))
def refIndex (r : List D) : List (List D) := rowOf1 (r.getD 1 (.num 0))
def refHas (r : List D) : List (List D) := rowOf1 (r.getD 2 (.num 0))
def isTrue (d : D) : Bool := match d with | .bit b => b | _ => false

def isPoll (c : Cx) (i : Nat) : Bool := (c.keyAt i = [63] ∨ c.keyAt i = [63, 63]) ∧ c.keyAt (i + 1) = [91]
def isClosed (c : Cx) (i : Nat) : Bool := c.keyAt (i - 1) = [125] ∨ c.keyAt (i - 1) = [102, 105] ∨ c.keyAt (i - 1) = [111, 100]
def isType (c : Cx) (i : Nat) : Bool := typeOf (c.keyAt i) ≠ 0

/-- Behind a step: is there one more, and from where on? -/
def anotherStep (c : Cx) (i : Nat) : Except Mis (Bool × Nat) :=
  let j := seps c i
  if c.keyAt j = [125] ∨ c.keyAt j = [58, 58] ∨ c.keyAt j = [102, 105] ∨ c.keyAt j = [111, 100] then .ok (false, j)
  else if isClosed c i = false ∧ i = j then .error (c.refuse j) else .ok (true, j)

def run (c : Cx) : Nat → Goal → Nat → Res
  | 0, _, _ => .error (0, 0)
  | f + 1, g, i => match g with
    | .name => if c.kindAt i = 1 then .ok ([.str (c.textAt i)], i + 1) else .error (c.refuse i)
    | .expr => run c f (.operators 1) i
    | .operators least => bnd (run c f .unary i) fun e i => run c f (.more least e) i
    | .more least e =>
      if levelOf (c.keyAt i) < least then .ok (e, i)
      else bnd (run c f (.operators (levelOf (c.keyAt i) + 1)) (i + 1)) fun e2 j => run c f (.more least (aBinary (c.keyAt i) e e2)) j
    | .unary =>
      if c.keyAt i = [33] ∨ c.keyAt i = [126] ∨ c.keyAt i = [45] then bnd (run c f .unary (i + 1)) fun e j => .ok (aUnary (c.keyAt i) (.row .ast [e]), j)
      else run c f .primary i
    | .primary =>
      if c.kindAt i = 2 then .ok (aNum (c.numAt i), i + 1)
      else if c.kindAt i = 1 then run c f .named i
      else if c.keyAt i = [116, 114, 117, 101] then .ok (aNum 1, i + 1)
      else if c.keyAt i = [102, 97, 108, 115, 101] then .ok (aNum 0, i + 1)
      else if c.keyAt i = [40] then run c f .parens i
      else if c.keyAt i = [114, 117, 110] then run c f .run i
      else if c.keyAt i = [116, 105, 109, 101, 111, 117, 116] ∨ c.keyAt i = [110, 112, 95] ∨ c.keyAt i = [95, 112, 105, 100] ∨ c.keyAt i = [95, 110, 114, 95, 112, 114] then .ok (aWord (c.keyAt i), i + 1)
      else if c.keyAt i = [108, 101, 110] ∨ c.keyAt i = [102, 117, 108, 108] ∨ c.keyAt i = [101, 109, 112, 116, 121] ∨ c.keyAt i = [110, 102, 117, 108, 108] ∨ c.keyAt i = [110, 101, 109, 112, 116, 121] then run c f .length i
      else .error (c.refuse i)
    | .parens => need c [40] i fun i => bnd (run c f .expr i) fun e i =>
        if c.keyAt i = [45, 62] then bnd (run c f (.cond e) (i + 1)) fun e i => need c [41] i fun i => .ok (e, i) else need c [41] i fun i => .ok (e, i)
    | .cond e => bnd (run c f .expr i) fun e1 i => need c [58] i fun i => bnd (run c f .expr i) fun e2 i => .ok (aCond e e1 e2, i)
    | .run => need c [114, 117, 110] i fun i => bnd (run c f .name i) fun nm i => bnd (run c f (.inParens .expr .ast) i) fun kids i => .ok (aRun (nm.getD 0 (.num 0)) (kids.getD 0 (.num 0)), i)
    | .length => need c [40] (i + 1) fun j => bnd (run c f .ref j) fun r j => need c [41] j fun j => .ok (aLen (c.keyAt i) r, j)
    | .named => bnd (run c f .ref i) fun r i =>
        if c.keyAt i = [64] ∧ (refNames r).length = 1 ∧ isTrue (((refHas r).getD 0 []).getD 0 (.num 0)) = true then run c f (.label (aRef r)) i
        else if isPoll c i then run c f (.poll (aRef r)) i else .ok (aRef r, i)
    | .label e => need c [64] i fun i => bnd (run c f .name i) fun nm i => .ok (aAt (((refNames (e.drop 4)).getD 0 []).getD 0 (.num 0)) (nm.getD 0 (.num 0)) (e.getD 5 (.num 0)), i)
    | .poll e => need c [91] (i + 1) fun j => bnd (run c f (.message .arg .arg) j) fun args j => need c [93] j fun j => .ok (aPoll (c.keyAt i) ((e.drop 4).take 3) (args.getD 0 (.num 0)), j)
    | .ref => bnd (run c f (.part zRef) i) fun r i => run c f (.refMore r) i
    | .refMore r => if c.keyAt i = [46] then bnd (run c f (.part r) (i + 1)) fun r i => run c f (.refMore r) i else .ok (r, i)
    | .part r => bnd (run c f .name i) fun nm i =>
        if c.keyAt i = [91] then bnd (run c f .index i) fun e i => .ok ([.row .str (refNames r ++ [nm]), .row .ast (refIndex r ++ [e]), .row .bool (refHas r ++ [[.bit true]])], i)
        else .ok ([.row .str (refNames r ++ [nm]), .row .ast (refIndex r ++ [zAst]), .row .bool (refHas r ++ [[.bit false]])], i)
    | .index => need c [91] i fun i => bnd (run c f .expr i) fun e i => need c [93] i fun i => .ok (e, i)
    | .arg =>
      if c.kindAt i = 1 then bnd (run c f .ref i) fun r i => .ok (.bit false :: .bit false :: aRef r, i)
      else if c.keyAt i = [95] then .ok (.bit false :: .bit true :: zAst, i + 1)
      else if c.keyAt i = [101, 118, 97, 108] then need c [40] (i + 1) fun i => bnd (run c f .expr i) fun e i => need c [41] i fun i => .ok (.bit true :: .bit false :: e, i)
      else if c.kindAt i = 2 ∨ c.keyAt i = [45] ∨ c.keyAt i = [116, 114, 117, 101] ∨ c.keyAt i = [102, 97, 108, 115, 101] then bnd (run c f .unary i) fun e i => .ok (.bit true :: .bit false :: e, i)
      else .error (c.refuse i)
    | .row g t els => bnd (run c f g i) fun e i => run c f (.rowMore g t (els ++ [e])) i
    | .rowMore g t els => if c.keyAt i = [44] then bnd (run c f g (i + 1)) fun e i => run c f (.rowMore g t (els ++ [e])) i else .ok ([.row t els], i)
    | .inParens g t => need c [40] i fun i => if c.keyAt i = [41] then need c [41] i fun i => .ok ([.row t []], i) else bnd (run c f (.row g t []) i) fun d i => need c [41] i fun i => .ok (d, i)
    | .inBraces g t => need c [123] i fun i => bnd (run c f (.row g t []) i) fun d i => need c [125] i fun i => .ok (d, i)
    | .message g t => bnd (run c f g i) fun e i =>
        if c.keyAt i = [40] then bnd (run c f (.row g t [e]) (i + 1)) fun d i => need c [41] i fun i => .ok (d, i)
        else if c.keyAt i = [44] then run c f (.row g t [e]) (i + 1) else .ok ([.row t [e]], i)
    | .plainType => if isType c i then .ok ([.num (typeOf (c.keyAt i))], i + 1) else .error (c.refuse i)
    | .decls => bnd (run c f .decl i) fun d i => run c f (.declsMore [d]) i
    | .declsMore els =>
      if c.keyAt i = [59] then (if isType c (i + 1) = true ∨ c.kindAt (i + 1) = 1 then bnd (run c f .decl (i + 1)) fun d i => run c f (.declsMore (els ++ [d])) i else run c f (.declsMore els) (i + 1))
      else .ok ([.row .decl els], i)
    | .decl =>
      if c.kindAt i = 1 then bnd (run c f (.row .variable .var []) (i + 1)) fun vs j => .ok ([.num (-1), .str (c.textAt i)] ++ vs ++ [.num (c.place i)], j)
      else bnd (run c f .plainType i) fun t j => bnd (run c f (.row .variable .var []) j) fun vs j => .ok (t ++ [.str []] ++ vs ++ [.num (c.place i)], j)
    | .variable => bnd (run c f .name i) fun nm i =>
        if c.keyAt i = [91] then bnd (run c f .index i) fun e i => (if c.keyAt i = [61] then run c f (.beginning (splice zVar 0 (nm ++ [.bit true] ++ e))) (i + 1) else .ok (splice zVar 0 (nm ++ [.bit true] ++ e), i))
        else if c.keyAt i = [61] then run c f (.beginning (splice zVar 0 nm)) (i + 1) else .ok (splice zVar 0 nm, i)
    | .beginning v =>
      if c.keyAt i = [91] then bnd (run c f .index i) fun e i => need c [111, 102] i fun i => bnd (run c f (.inBraces .plainType .int) i) fun ts i => .ok (splice v 12 (e ++ [.bit true] ++ ts), i)
      else bnd (run c f .expr i) fun e i => .ok (splice v 11 (.bit true :: e), i)
    | .body => need c [123] i fun i => bnd (run c f .steps i) fun l i => need c [125] i fun i => .ok (l, i)
    | .steps => bnd (run c f .step i) fun s i => run c f (.stepsMore [s]) i
    | .stepsMore els => match anotherStep c i with
        | .error e => .error e
        | .ok (false, j) => .ok ([.row .stmt els], j)
        | .ok (true, j) => bnd (run c f .step j) fun s i => run c f (.stepsMore (els ++ [s])) i
    | .step =>
      if isType c i = true ∨ (c.kindAt i = 1 ∧ c.kindAt (i + 1) = 1) then bnd (run c f .decl i) fun d j => .ok (splice (splice zStmt 0 [.num 1, .num (c.place i)]) 22 d, j)
      else bnd (run c f .stmt i) fun s i => if c.keyAt i = [117, 110, 108, 101, 115, 115] then run c f (.unless s) (i + 1) else .ok (s, i)
    | .unless s => bnd (run c f .stmt i) fun t i => .ok (splice (splice zStmt 0 [.num 15, s.getD 1 (.num 0)]) 27 [.row .stmt [s, t]], i)
    | .stmt =>
      let s := splice zStmt 1 [.num (c.place i)]
      if c.kindAt i = 1 then run c f (.namedStmt s) i
      else if c.keyAt i = [123] then bnd (run c f .body i) fun l i => .ok (splice (splice s 0 [.num 14]) 27 l, i)
      else if c.keyAt i = [97, 116, 111, 109, 105, 99] then bnd (run c f .body (i + 1)) fun l i => .ok (splice (splice s 0 [.num 12]) 27 l, i)
      else if c.keyAt i = [100, 95, 115, 116, 101, 112] then bnd (run c f .body (i + 1)) fun l i => .ok (splice (splice s 0 [.num 13]) 27 l, i)
      else if c.keyAt i = [105, 102] then bnd (run c f (.options [102, 105]) i) fun l i => .ok (splice (splice s 0 [.num 7]) 26 l, i)
      else if c.keyAt i = [100, 111] then bnd (run c f (.options [111, 100]) i) fun l i => .ok (splice (splice s 0 [.num 8]) 26 l, i)
      else run c f (.simple s) i
    | .options fin => bnd (run c f .option (i + 1)) fun l i => run c f (.optionsMore fin [l]) i
    | .optionsMore fin els => if c.keyAt i = fin then .ok ([.row .stmts els], i + 1) else bnd (run c f .option i) fun l i => run c f (.optionsMore fin (els ++ [l])) i
    | .option => need c [58, 58] i fun i => run c f .steps i
    | .simple s =>
      if c.keyAt i = [98, 114, 101, 97, 107] then .ok (splice s 0 [.num 9], i + 1)
      else if c.keyAt i = [115, 107, 105, 112] then .ok (splice s 0 [.num 19], i + 1)
      else if c.keyAt i = [101, 108, 115, 101] then .ok (splice s 0 [.num 20], i + 1)
      else if c.keyAt i = [103, 111, 116, 111] then bnd (run c f .name (i + 1)) fun nm i => .ok (splice (splice s 0 [.num 10]) 2 nm, i)
      else if c.keyAt i = [97, 115, 115, 101, 114, 116] then run c f (.assertion s) i
      else if c.keyAt i = [112, 114, 105, 110, 116, 102] then run c f (.print s) i
      else bnd (run c f .expr i) fun e i => .ok (splice (splice s 0 [.num 2]) 11 e, i)
    | .assertion s => need c [97, 115, 115, 101, 114, 116] i fun i => need c [40] i fun i => bnd (run c f .expr i) fun e i => need c [41] i fun i => .ok (splice (splice s 0 [.num 16]) 11 e, i)
    | .print s => need c [112, 114, 105, 110, 116, 102] i fun i => need c [40] i fun i =>
        if c.kindAt i = 3 then
          (if c.keyAt (i + 1) = [44] then bnd (run c f (.row .expr .ast []) (i + 2)) fun es j => need c [41] j fun j => .ok (splice (splice (splice s 0 [.num 17]) 3 [.str (c.textAt i)]) 20 es, j)
           else need c [41] (i + 1) fun j => .ok (splice (splice s 0 [.num 17]) 3 [.str (c.textAt i)], j))
        else .error (c.refuse i)
    | .namedStmt s =>
      if c.keyAt (i + 1) = [58] then bnd (run c f .stmt (i + 2)) fun t j => .ok (splice (splice (splice s 0 [.num 11]) 2 [.str (c.textAt i)]) 27 [.row .stmt [t]], j)
      else if c.keyAt (i + 1) = [40] then bnd (run c f (.inParens .expr .ast) (i + 1)) fun es j => .ok (splice (splice (splice s 0 [.num 18]) 2 [.str (c.textAt i)]) 20 es, j)
      else run c f (.onVariable s) i
    | .onVariable s => bnd (run c f .ref i) fun r j =>
        if isPoll c j then bnd (run c f .expr i) fun e j => .ok (splice (splice s 0 [.num 2]) 11 e, j)
        else if c.keyAt j = [61] then bnd (run c f .expr (j + 1)) fun e j => .ok (splice (splice (splice s 0 [.num 3]) 8 r) 11 e, j)
        else if c.keyAt j = [43, 43] then .ok (splice (splice (splice s 0 [.num 4]) 4 [.num 1]) 8 r, j + 1)
        else if c.keyAt j = [45, 45] then .ok (splice (splice (splice s 0 [.num 4]) 4 [.num (-1)]) 8 r, j + 1)
        else if c.keyAt j = [33] ∨ c.keyAt j = [33, 33] then bnd (run c f (.message .expr .ast) (j + 1)) fun es k => .ok (splice (splice (splice (splice s 0 [.num 5]) 5 [.bit (c.keyAt j = [33, 33])]) 8 r) 20 es, k)
        else if c.keyAt j = [63] ∨ c.keyAt j = [63, 63] then run c f (.received (splice (splice (splice s 0 [.num 6]) 6 [.bit (c.keyAt j = [63, 63])]) 8 r)) (j + 1)
        else bnd (run c f .expr i) fun e j => .ok (splice (splice s 0 [.num 2]) 11 e, j)
    | .received s =>
      if c.keyAt i = [60] then bnd (run c f (.message .arg .arg) (i + 1)) fun as i => need c [62] i fun i => .ok (splice (splice s 7 [.bit true]) 21 as, i)
      else bnd (run c f (.message .arg .arg) i) fun as i => .ok (splice (splice s 7 [.bit false]) 21 as, i)
    | .program els =>
      if i < c.T.length then (if c.keyAt i = [59] then run c f (.program els) (i + 1) else bnd (run c f .unit i) fun u i => run c f (.program (els ++ [u])) i) else .ok ([.row .unit els], i)
    | .unit =>
      let u := splice zUnit 1 [.num (c.place i)]
      if c.keyAt i = [116, 121, 112, 101, 100, 101, 102] then run c f (.typedef u) i
      else if c.keyAt i = [97, 99, 116, 105, 118, 101] ∨ c.keyAt i = [112, 114, 111, 99, 116, 121, 112, 101] then run c f (.proctype u) i
      else if c.keyAt i = [105, 110, 105, 116] then bnd (run c f .body (i + 1)) fun l i => .ok (splice (splice u 0 [.num 5]) 20 l, i)
      else if c.keyAt i = [110, 101, 118, 101, 114] then bnd (run c f .body (i + 1)) fun l i => .ok (splice (splice u 0 [.num 6]) 20 l, i)
      else if c.keyAt i = [105, 110, 108, 105, 110, 101] then run c f (.inline u) i
      else if c.keyAt i = [108, 116, 108] then run c f (.ltl u) i
      else run c f (.mtypeOrDecl u) i
    | .mtypeOrDecl u =>
      if c.keyAt i = [109, 116, 121, 112, 101] ∧ (c.keyAt (i + 1) = [61] ∨ c.keyAt (i + 1) = [123]) then
        bnd (run c f (.inBraces .name .str) (if c.keyAt (i + 1) = [61] then i + 2 else i + 1)) fun ns i => .ok (splice (splice u 0 [.num 1]) 4 ns, i)
      else bnd (run c f .decl i) fun d i => .ok (splice (splice u 0 [.num 2]) 15 d, i)
    | .typedef u => need c [116, 121, 112, 101, 100, 101, 102] i fun i => bnd (run c f .name i) fun nm i => need c [123] i fun i => bnd (run c f .decls i) fun ds i => need c [125] i fun i => .ok (splice (splice (splice u 0 [.num 3]) 2 nm) 19 ds, i)
    | .proctype u =>
      let rest := fun (u : List D) (i : Nat) => need c [112, 114, 111, 99, 116, 121, 112, 101] i fun i => bnd (run c f .name i) fun nm i => need c [40] i fun i =>
        if c.keyAt i = [41] then need c [41] i fun i => bnd (run c f .body i) fun l i => .ok (splice (splice u 2 nm) 20 l, i)
        else bnd (run c f .decls i) fun ds i => need c [41] i fun i => bnd (run c f .body i) fun l i => .ok (splice (splice (splice u 2 nm) 19 ds) 20 l, i)
      if c.keyAt i = [97, 99, 116, 105, 118, 101] then bnd (run c f (.active (splice u 0 [.num 4])) (i + 1)) rest else rest (splice u 0 [.num 4]) i
    | .active u => if c.keyAt i = [91] then bnd (run c f .index i) fun e i => .ok (splice u 5 (.bit true :: e), i) else .ok (splice u 5 (.bit true :: aNum 1), i)
    | .inline u => need c [105, 110, 108, 105, 110, 101] i fun i => bnd (run c f .name i) fun nm i => bnd (run c f (.inParens .name .str) i) fun ns i => bnd (run c f .body i) fun l i => .ok (splice (splice (splice (splice u 0 [.num 7]) 2 nm) 4 ns) 20 l, i)
    | .ltl u => need c [108, 116, 108] i fun i =>
        let rest := fun (u : List D) (i : Nat) => need c [123] i fun j => match braceF c (c.T.length + 2) 1 j with
          | some k => .ok (splice u 3 [.str (((c.text.take (c.place k)).drop (c.place i + 1)))], k + 1)
          | none => .error (21, c.len)
        if c.kindAt i = 1 then rest (splice (splice u 0 [.num 8]) 2 [.str (c.textAt i)]) (i + 1) else rest (splice u 0 [.num 8]) i

end Go.Proofs.YthmdgbmodgfcmaaGreatDoor
/-
  The reader in memory; what reading a part leaves: laws on worlds; nothing of the program's text but the types' numbers.
-/
namespace Go.Proofs.YthmdgbmodgfcmaaGreatDoor
open Go.RowKit

/-- The types' numbers, and how many cells they take. -/
def ty : Tys where
  id := fun | .str => 9 | .ast => 41 | .bool => 4 | .arg => 102 | .stmt => 58 | .stmts => 53 | .decl => 51 | .var => 93 | .int => 3 | .unit => 55
  size := fun | .str => 1 | .ast => 9 | .bool => 1 | .arg => 11 | .stmt => 28 | .stmts => 1 | .decl => 4 | .var => 23 | .int => 1 | .unit => 21

/-- A reader: its text and words, its block, the words' block. -/
structure Env where
  c : Cx
  s : ByteArray
  rb : Nat
  wb : Nat
  ao : Option Addr
  cap : Nat
  small : c.T.length ≤ 65536
  size : s.size = c.len
  len : c.len ≤ 65536
  ne : rb ≠ wb
  r1 : rb ≠ 1
  ao_eq : ∀ (i : Nat) (t : Tok), c.T[i]? = some t → ao = some ⟨wb, 0, none⟩
  ats : ∀ (i : Nat) (t : Tok), c.T[i]? = some t → t.at_ < c.len
  txt : c.text = s.data.toList
  mono : ∀ (i j : Nat) (t u : Tok), i < j → c.T[i]? = some t → c.T[j]? = some u → t.at_ < u.at_
  nums : ∀ (i : Nat) (t : Tok), c.T[i]? = some t → t.n ≤ 2147483647

/-- The names of the types. -/
def typeNames : List (List UInt8) := [[], [98, 105, 116], [98, 111, 111, 108], [98, 121, 116, 101], [115, 104, 111, 114, 116], [105, 110, 116], [109, 116, 121, 112, 101], [112, 105, 100], [99, 104, 97, 110]]

/-- The program's table of them lies in its package-level variable. -/
def TN (w : World) : Prop := ∀ (k : Nat) (s : List UInt8), typeNames[k]? = some s → w.cell? ⟨1, k, none⟩ = some (.string (strOfL s))

/-- The reader, at a word. -/
structure Rd (E : Env) (w : World) (i : Nat) : Prop where
  blk : w.heap[E.rb]? = some (.cells #[.string E.s, .slice E.ao E.c.T.length E.cap, .int .i64 (i : Int)] 86 (0, 0))
  words : ∀ (k : Nat) (t : Tok), E.c.T[k]? = some t → w.cell? ⟨E.wb, k * 4, none⟩ = some (.int .i64 (t.kind : Int)) ∧ w.cell? ⟨E.wb, k * 4 + 1, none⟩ = some (.string (strOfL t.text)) ∧ w.cell? ⟨E.wb, k * 4 + 2, none⟩ = some (.int .i64 (t.n : Int)) ∧ w.cell? ⟨E.wb, k * 4 + 3, none⟩ = some (.int .i64 (t.at_ : Int))
  le : i ≤ E.c.T.length
  wlt : E.wb < w.heap.size
  tn : TN w

/-- The reader's own blocks. -/
def Env.own (E : Env) (x : Nat) : Prop := x = E.rb ∨ x = E.wb ∨ x = 1

theorem cell_mv {S : Nat → Prop} {w w' : World} (h : Mv S w w') {b o : Nat} {v : Value} (hc : w.cell? ⟨b, o, none⟩ = some v) (hb : ¬ S b) : w'.cell? ⟨b, o, none⟩ = some v := by
  have hlt := block_lt_of_cell hc
  have := h.block b hlt hb
  unfold World.cell? at hc ⊢
  simp only at hc ⊢
  rw [this]
  exact hc

theorem TN.kept {S : Nat → Prop} {w w' : World} (h : TN w) (hk : Mv S w w') (h1 : ¬ S 1) : TN w' := fun k s hs => cell_mv hk (h k s hs) h1
theorem TN.lt {w : World} (h : TN w) : 1 < w.heap.size := block_lt_of_cell (h 0 [] rfl)

theorem Rd.kept {E : Env} {S : Nat → Prop} {w w' : World} {i : Nat} (h : Rd E w i) (hk : Mv S w w') (hr : ¬ S E.rb) (hw : ¬ S E.wb) (h1 : ¬ S 1) : Rd E w' i :=
  ⟨hk.heap h.blk hr, fun k t ht => ⟨cell_mv hk (h.words k t ht).1 hw, cell_mv hk (h.words k t ht).2.1 hw, cell_mv hk (h.words k t ht).2.2.1 hw, cell_mv hk (h.words k t ht).2.2.2 hw⟩, h.le, Nat.lt_of_lt_of_le h.wlt hk.size, h.tn.kept hk h1⟩

theorem Rd.same {E : Env} {w w' : World} {i : Nat} (h : Rd E w i) (hk : Mv (fun _ => False) w w') : Rd E w' i := h.kept hk id id id

theorem Rd.c0 {E : Env} {w : World} {i : Nat} (h : Rd E w i) : w.cell? ⟨E.rb, 0, none⟩ = some (.string E.s) := by rw [cell_blk h.blk]; rfl
theorem Rd.c1 {E : Env} {w : World} {i : Nat} (h : Rd E w i) : w.cell? ⟨E.rb, 1, none⟩ = some (.slice E.ao E.c.T.length E.cap) := by rw [cell_blk h.blk]; rfl
theorem Rd.c2 {E : Env} {w : World} {i : Nat} (h : Rd E w i) : w.cell? ⟨E.rb, 2, none⟩ = some (.int .i64 (i : Int)) := by rw [cell_blk h.blk]; rfl
theorem Rd.f2 {E : Env} {w : World} {i : Nat} (h : Rd E w i) : w.frozen? ⟨E.rb, 2, none⟩ = false := free_blk h.blk 2
theorem Rd.rlt {E : Env} {w : World} {i : Nat} (h : Rd E w i) : E.rb < w.heap.size := lt_of_block h.blk

/-- The reader goes on. -/
theorem Rd.step {E : Env} {w : World} {i : Nat} (h : Rd E w i) (j : Nat) (hj : j ≤ E.c.T.length) : Rd E (w.setCell ⟨E.rb, 2, none⟩ (.int .i64 (j : Int))) j :=
  ⟨by rw [setCell_blk h.blk]; rfl, fun k t ht =>
    have hk := Mv.setCell w ⟨E.rb, 2, none⟩ (.int .i64 (j : Int))
    have hw : ¬ E.wb = E.rb := fun e => E.ne e.symm
    ⟨cell_mv hk (h.words k t ht).1 hw, cell_mv hk (h.words k t ht).2.1 hw, cell_mv hk (h.words k t ht).2.2.1 hw, cell_mv hk (h.words k t ht).2.2.2 hw⟩, hj, by simpa [World.setCell] using h.wlt, h.tn.kept (Mv.setCell w ⟨E.rb, 2, none⟩ (.int .i64 (j : Int))) (fun e => E.r1 e.symm)⟩

/-- What a refusal is thrown as. -/
def thrown (m : Mis) : List PanicEntry := [{ v := .iface 84 (.agg #[.int .i64 (m.1 : Int), .int .i64 (m.2 : Int)]), recovered := false }]

/-- What reading a part leaves: the cells hold what was read, and the reader has gone on; or a refusal is thrown. -/
def Post (E : Env) (F : Nat → Prop) (b : Nat) (t : TypeId) (N o k : Nat) (w : World) (r : Res) (e : Ending) (w' : World) : Prop := match r with
  | .ok (ds, i) => e = .returned (.tuple #[]) ∧ Rd E w' i ∧ ds.length = k ∧ (∃ F', At ty w' F' b t N o ds ∧ ∀ x, F' x → F x ∨ w.heap.size ≤ x) ∧ Mv (fun x => x = E.rb ∨ x = b ∨ F x) w w' ∧ Out b o k w w'
  | .error m => e = .panicked (thrown m) ∧ Mv (fun x => x = E.rb ∨ x = b ∨ F x) w w'

/-- Under way: the world now, the one at the beginning. -/
structure St (E : Env) (w0 : World) (F0 : Nat → Prop) (b : Nat) (t : TypeId) (N o k : Nat) (w : World) (F : Nat → Prop) (i : Nat) (ds : List D) : Prop where
  rd : Rd E w i
  cur : At ty w F b t N o ds
  len : ds.length = k
  mv : Mv (fun x => x = E.rb ∨ x = b ∨ F0 x) w0 w
  out : Out b o k w0 w
  fr : ∀ x, F x → F0 x ∨ w0.heap.size ≤ x
  nb : ¬ E.own b
  nF : ∀ x, F x → ¬ E.own x
  nF0 : ∀ x, F0 x → x < w0.heap.size

section
variable {E : Env} {w0 w : World} {F0 F : Nat → Prop} {b : Nat} {t : TypeId} {N o k i : Nat} {ds : List D}

theorem St.start (hr : Rd E w i) (ha : At ty w F b t N o ds) (hb : ¬ E.own b) (hF : ∀ x, F x → ¬ E.own x) : St E w F b t N o ds.length w F i ds :=
  ⟨hr, ha, rfl, Mv.refl _ _, fun _ _ => rfl, fun _ h => .inl h, hb, hF, ha.lt⟩

theorem out_of_mv {S : Nat → Prop} {w w' : World} {b o k : Nat} (h : Mv S w w') (hb : ¬ S b) (hlt : b < w.heap.size) : Out b o k w w' := fun j _ => World.cell?_of_block (a := ⟨b, j, none⟩) (h.block b hlt hb)

/-- Nothing turned. -/
theorem St.same (h : St E w0 F0 b t N o k w F i ds) {w1 : World} (hm : Mv (fun _ => False) w w1) : St E w0 F0 b t N o k w1 F i ds :=
  ⟨h.rd.same hm, h.cur.kept hm id (fun _ _ => id), h.len, h.mv.trans hm (fun _ hx => hx.elim), fun j hj => (out_of_mv (o := o) (k := k) hm id h.cur.blt j hj).trans (h.out j hj), h.fr, h.nb, h.nF, h.nF0⟩

/-- The reader alone turned. -/
theorem St.goes (h : St E w0 F0 b t N o k w F i ds) {w1 : World} {j : Nat} (hr : Rd E w1 j) (hm : Mv (fun x => x = E.rb) w w1) : St E w0 F0 b t N o k w1 F j ds :=
  have hb : ¬ b = E.rb := fun e => h.nb (.inl e)
  ⟨hr, h.cur.kept hm hb (fun x hx e => h.nF x hx (.inl e)), h.len, h.mv.trans hm (fun _ hx => .inl (.inl hx)), fun q hq => (out_of_mv (o := o) (k := k) hm hb h.cur.blt q hq).trans (h.out q hq), h.fr, h.nb, h.nF, h.nF0⟩

theorem St.step (h : St E w0 F0 b t N o k w F i ds) (j : Nat) (hj : j ≤ E.c.T.length) : St E w0 F0 b t N o k (w.setCell ⟨E.rb, 2, none⟩ (.int .i64 (j : Int))) F j ds :=
  h.goes (h.rd.step j hj) (Mv.setCell w ⟨E.rb, 2, none⟩ (.int .i64 (j : Int)))

/-- One word further on. -/
theorem St.inc (h : St E w0 F0 b t N o k w F i ds) (hj : i < E.c.T.length) : St E w0 F0 b t N o k (w.setCell ⟨E.rb, 2, none⟩ (.int .i64 ((i : Int) + 1))) F (i + 1) ds := by
  have := h.step (i + 1) hj
  rwa [show ((i + 1 : Nat) : Int) = (i : Int) + 1 from by omega] at this

/-- The reader goes back. -/
theorem St.back (h : St E w0 F0 b t N o k w F i ds) (x : Value) (j : Nat) (hj : j ≤ E.c.T.length) : St E w0 F0 b t N o k ((w.setCell ⟨E.rb, 2, none⟩ x).setCell ⟨E.rb, 2, none⟩ (.int .i64 (j : Int))) F j ds := by
  have hm := (Mv.setCell w ⟨E.rb, 2, none⟩ x).trans (Mv.setCell _ ⟨E.rb, 2, none⟩ (.int .i64 (j : Int))) (fun _ h => .inl h)
  have hw : ¬ E.wb = E.rb := fun e => E.ne e.symm
  refine h.goes ⟨by rw [setCell_blk (setCell_blk h.rd.blk)]; rfl, fun q t ht => ⟨cell_mv hm (h.rd.words q t ht).1 hw, cell_mv hm (h.rd.words q t ht).2.1 hw, cell_mv hm (h.rd.words q t ht).2.2.1 hw, cell_mv hm (h.rd.words q t ht).2.2.2 hw⟩, hj, by simpa [World.setCell] using h.rd.wlt, h.rd.tn.kept hm (fun e => E.r1 e.symm)⟩ hm
theorem St.back1 (h : St E w0 F0 b t N o k w F i ds) (j : Nat) (hj : j ≤ E.c.T.length) : St E w0 F0 b t N o k (w.setCell ⟨E.rb, 2, none⟩ (.int .i64 (j : Int))) F j ds := h.step j hj

/-- A cell is written. -/
theorem St.set (h : St E w0 F0 b t N o k w F i ds) (q : Nat) (hq : q < k) (v : Value) (d : D) (hv : ∀ w' : World, DIs ty w' (fun _ => False) v d) : St E w0 F0 b t N o k (w.setCell ⟨b, o + q, none⟩ v) F i (ds.set q d) := by
  have hm := Mv.setCell w ⟨b, o + q, none⟩ v
  have hl := h.len
  refine ⟨h.rd.kept hm (fun e => h.nb (.inl e.symm)) (fun e => h.nb (.inr (.inl e.symm))) (fun e => h.nb (.inr (.inr e.symm))), h.cur.set q (by omega) v d hv, by simpa using hl, h.mv.trans hm (fun x hx => .inl (.inr (.inl hx))), fun j hj => ?_, h.fr, h.nb, h.nF, h.nF0⟩
  have he : (w.setCell ⟨b, o + q, none⟩ v).cell? ⟨b, j, none⟩ = w.cell? ⟨b, j, none⟩ := World.cell?_setCell_other _ _ _ _ (by intro e; injection e; omega)
  exact he.trans (h.out j hj)

/-- A part is read into a stretch of the cells. -/
theorem St.call (h : St E w0 F0 b t N o k w F i ds) (q m : Nat) (hq : q + m ≤ k) : ∃ Fi : Nat → Prop, At ty w Fi b t N (o + q) ((ds.drop q).take m) ∧ (∀ x, Fi x → ¬ E.own x) ∧
    (∀ (ds' : List D) (j : Nat) (e : Ending) (w1 : World), Post E Fi b t N (o + q) m w (.ok (ds', j)) e w1 → ∃ F', St E w0 F0 b t N o k w1 F' j (ds.take q ++ ds' ++ ds.drop (q + m))) ∧
    (∀ (mi : Mis) (e : Ending) (w1 : World), Post E Fi b t N (o + q) m w (.error mi) e w1 → Post E F0 b t N o k w0 (.error mi) e w1) := by
  obtain ⟨Fi, ha, hsub, hplug⟩ := h.cur.part q m (by rw [h.len]; exact hq)
  have hfi : ∀ x, Fi x → (x = E.rb ∨ x = b ∨ F0 x) ∨ w0.heap.size ≤ x := fun x hx => (h.fr x (hsub x hx)).elim (fun h => .inl (.inr (.inr h))) .inr
  refine ⟨Fi, ha, fun x hx => h.nF x (hsub x hx), fun ds' j e w1 hp => ?_, fun mi e w1 hp => ⟨hp.1, ?_⟩⟩
  · obtain ⟨_, hr, hl, ⟨F', ha', hF'⟩, hm, ho⟩ := hp
    have hnb : ¬ b = E.rb := fun e => h.nb (.inl e)
    have hown : ∀ x, F' x → ¬ E.own x := fun x hx hown => by
      rcases hF' x hx with h1 | h1
      · exact h.nF x (hsub x h1) hown
      · rcases hown with rfl | rfl | rfl
        · have := h.rd.rlt; omega
        · have := h.rd.wlt; omega
        · have := h.rd.tn.lt; omega
    refine ⟨_, hr, hplug _ w1 F' ds' ha' hl hF' hm (fun x hx => ?_) ho, ?_, ?_, fun y hy => ?_, ?_, h.nb, ?_, h.nF0⟩
    · rcases hx with rfl | rfl | hx
      · exact .inr (.inr fun hx => h.nF _ hx (.inl rfl))
      · exact .inl rfl
      · exact .inr (.inl hx)
    · have := h.len
      simp
      omega
    · exact h.mv.trans hm (fun x hx => by
        rcases hx with hx | hx | hx
        · exact .inl (.inl hx)
        · exact .inl (.inr (.inl hx))
        · exact hfi x hx)
    · exact (ho y (by omega)).trans (h.out y hy)
    · rintro x (hx | hx)
      · exact h.fr x hx
      · rcases hF' x hx with h1 | h1
        · exact h.fr x (hsub x h1)
        · exact .inr (Nat.le_trans h.mv.size h1)
    · rintro x (hx | hx)
      · exact h.nF x hx
      · exact hown x hx
  · exact h.mv.trans hp.2 (fun x hx => by
      rcases hx with hx | hx | hx
      · exact .inl (.inl hx)
      · exact .inl (.inr (.inl hx))
      · exact hfi x hx)

/-- A part is read into all of the cells. -/
theorem St.whole (h : St E w0 F0 b t N o k w F i ds) {ds' : List D} {j : Nat} {e : Ending} {w1 : World} (hp : Post E F b t N o k w (.ok (ds', j)) e w1) : ∃ F', St E w0 F0 b t N o k w1 F' j ds' := by
  obtain ⟨_, hr, hl, ⟨F', ha', hF'⟩, hm, ho⟩ := hp
  have hfi : ∀ x, F x → (x = E.rb ∨ x = b ∨ F0 x) ∨ w0.heap.size ≤ x := fun x hx => (h.fr x hx).elim (fun h => .inl (.inr (.inr h))) .inr
  refine ⟨F', hr, ha', hl, h.mv.trans hm (fun x hx => ?_), fun y hy => (ho y hy).trans (h.out y hy), fun x hx => ?_, h.nb, fun x hx hown => ?_, h.nF0⟩
  · rcases hx with hx | hx | hx
    · exact .inl (.inl hx)
    · exact .inl (.inr (.inl hx))
    · exact hfi x hx
  · rcases hF' x hx with h1 | h1
    · exact h.fr x h1
    · exact .inr (Nat.le_trans h.mv.size h1)
  · rcases hF' x hx with h1 | h1
    · exact h.nF x h1 hown
    · rcases hown with rfl | rfl | rfl
      · have := h.rd.rlt; omega
      · have := h.rd.wlt; omega
      · have := h.rd.tn.lt; omega

theorem St.wholeBad (h : St E w0 F0 b t N o k w F i ds) {mi : Mis} {e : Ending} {w1 : World} (hp : Post E F b t N o k w (.error mi) e w1) : Post E F0 b t N o k w0 (.error mi) e w1 :=
  ⟨hp.1, h.mv.trans hp.2 (fun x hx => by
    rcases hx with hx | hx | hx
    · exact .inl (.inl hx)
    · exact .inl (.inr (.inl hx))
    · exact (h.fr x hx).elim (fun h => .inl (.inr (.inr h))) .inr)⟩

theorem St.set0 (h : St E w0 F0 b t N o k w F i ds) (hq : 0 < k) (v : Value) (d : D) (hv : ∀ w' : World, DIs ty w' (fun _ => False) v d) : St E w0 F0 b t N o k (w.setCell ⟨b, o, none⟩ v) F i (ds.set 0 d) := by
  have := h.set 0 hq v d hv
  rwa [Nat.add_zero] at this

/-- All is read. -/
theorem St.done (h : St E w0 F0 b t N o k w F i ds) : Post E F0 b t N o k w0 (.ok (ds, i)) (.returned (.tuple #[])) w :=
  ⟨rfl, h.rd, h.len, ⟨F, h.cur, h.fr⟩, h.mv, h.out⟩

/-- A refusal is thrown. -/
theorem St.bad (h : St E w0 F0 b t N o k w F i ds) {w1 : World} (hm : Mv (fun _ => False) w w1) (m : Mis) : Post E F0 b t N o k w0 (.error m) (.panicked (thrown m)) w1 :=
  ⟨rfl, h.mv.trans hm (fun _ hx => hx.elim)⟩

/-- A refusal is thrown, the reader having turned. -/
theorem St.badr (h : St E w0 F0 b t N o k w F i ds) {w1 : World} (hm : Mv (fun x => x = E.rb) w w1) (m : Mis) : Post E F0 b t N o k w0 (.error m) (.panicked (thrown m)) w1 :=
  ⟨rfl, h.mv.trans hm (fun _ hx => .inl (.inl hx))⟩
end

end Go.Proofs.YthmdgbmodgfcmaaGreatDoor
/-
  The equations of reading, a part each.
-/
namespace Go.Proofs.YthmdgbmodgfcmaaGreatDoor

theorem run_name (c : Cx) (f i : Nat) : run c (f + 1) .name i = ( if c.kindAt i = 1 then .ok ([.str (c.textAt i)], i + 1) else .error (c.refuse i)) := rfl
theorem run_expr (c : Cx) (f i : Nat) : run c (f + 1) .expr i = ( run c f (.operators 1) i) := rfl
theorem run_operators (c : Cx) (f i : Nat) (least : Nat) : run c (f + 1) (.operators least) i = ( bnd (run c f .unary i) fun e i => run c f (.more least e) i) := rfl
theorem run_more (c : Cx) (f i : Nat) (least : Nat) (e : List D) : run c (f + 1) (.more least e) i = (
      if levelOf (c.keyAt i) < least then .ok (e, i)
      else bnd (run c f (.operators (levelOf (c.keyAt i) + 1)) (i + 1)) fun e2 j => run c f (.more least (aBinary (c.keyAt i) e e2)) j) := rfl
theorem run_unary (c : Cx) (f i : Nat) : run c (f + 1) .unary i = (
      if c.keyAt i = [33] ∨ c.keyAt i = [126] ∨ c.keyAt i = [45] then bnd (run c f .unary (i + 1)) fun e j => .ok (aUnary (c.keyAt i) (.row .ast [e]), j)
      else run c f .primary i) := rfl
theorem run_primary (c : Cx) (f i : Nat) : run c (f + 1) .primary i = (
      if c.kindAt i = 2 then .ok (aNum (c.numAt i), i + 1)
      else if c.kindAt i = 1 then run c f .named i
      else if c.keyAt i = [116, 114, 117, 101] then .ok (aNum 1, i + 1)
      else if c.keyAt i = [102, 97, 108, 115, 101] then .ok (aNum 0, i + 1)
      else if c.keyAt i = [40] then run c f .parens i
      else if c.keyAt i = [114, 117, 110] then run c f .run i
      else if c.keyAt i = [116, 105, 109, 101, 111, 117, 116] ∨ c.keyAt i = [110, 112, 95] ∨ c.keyAt i = [95, 112, 105, 100] ∨ c.keyAt i = [95, 110, 114, 95, 112, 114] then .ok (aWord (c.keyAt i), i + 1)
      else if c.keyAt i = [108, 101, 110] ∨ c.keyAt i = [102, 117, 108, 108] ∨ c.keyAt i = [101, 109, 112, 116, 121] ∨ c.keyAt i = [110, 102, 117, 108, 108] ∨ c.keyAt i = [110, 101, 109, 112, 116, 121] then run c f .length i
      else .error (c.refuse i)) := rfl
theorem run_parens (c : Cx) (f i : Nat) : run c (f + 1) .parens i = ( need c [40] i fun i => bnd (run c f .expr i) fun e i =>
        if c.keyAt i = [45, 62] then bnd (run c f (.cond e) (i + 1)) fun e i => need c [41] i fun i => .ok (e, i) else need c [41] i fun i => .ok (e, i)) := rfl
theorem run_cond (c : Cx) (f i : Nat) (e : List D) : run c (f + 1) (.cond e) i = ( bnd (run c f .expr i) fun e1 i => need c [58] i fun i => bnd (run c f .expr i) fun e2 i => .ok (aCond e e1 e2, i)) := rfl
theorem run_run (c : Cx) (f i : Nat) : run c (f + 1) .run i = ( need c [114, 117, 110] i fun i => bnd (run c f .name i) fun nm i => bnd (run c f (.inParens .expr .ast) i) fun kids i => .ok (aRun (nm.getD 0 (.num 0)) (kids.getD 0 (.num 0)), i)) := rfl
theorem run_length (c : Cx) (f i : Nat) : run c (f + 1) .length i = ( need c [40] (i + 1) fun j => bnd (run c f .ref j) fun r j => need c [41] j fun j => .ok (aLen (c.keyAt i) r, j)) := rfl
theorem run_named (c : Cx) (f i : Nat) : run c (f + 1) .named i = ( bnd (run c f .ref i) fun r i =>
        if c.keyAt i = [64] ∧ (refNames r).length = 1 ∧ isTrue (((refHas r).getD 0 []).getD 0 (.num 0)) = true then run c f (.label (aRef r)) i
        else if isPoll c i then run c f (.poll (aRef r)) i else .ok (aRef r, i)) := rfl
theorem run_label (c : Cx) (f i : Nat) (e : List D) : run c (f + 1) (.label e) i = ( need c [64] i fun i => bnd (run c f .name i) fun nm i => .ok (aAt (((refNames (e.drop 4)).getD 0 []).getD 0 (.num 0)) (nm.getD 0 (.num 0)) (e.getD 5 (.num 0)), i)) := rfl
theorem run_poll (c : Cx) (f i : Nat) (e : List D) : run c (f + 1) (.poll e) i = ( need c [91] (i + 1) fun j => bnd (run c f (.message .arg .arg) j) fun args j => need c [93] j fun j => .ok (aPoll (c.keyAt i) ((e.drop 4).take 3) (args.getD 0 (.num 0)), j)) := rfl
theorem run_ref (c : Cx) (f i : Nat) : run c (f + 1) .ref i = ( bnd (run c f (.part zRef) i) fun r i => run c f (.refMore r) i) := rfl
theorem run_refMore (c : Cx) (f i : Nat) (r : List D) : run c (f + 1) (.refMore r) i = ( if c.keyAt i = [46] then bnd (run c f (.part r) (i + 1)) fun r i => run c f (.refMore r) i else .ok (r, i)) := rfl
theorem run_part (c : Cx) (f i : Nat) (r : List D) : run c (f + 1) (.part r) i = ( bnd (run c f .name i) fun nm i =>
        if c.keyAt i = [91] then bnd (run c f .index i) fun e i => .ok ([.row .str (refNames r ++ [nm]), .row .ast (refIndex r ++ [e]), .row .bool (refHas r ++ [[.bit true]])], i)
        else .ok ([.row .str (refNames r ++ [nm]), .row .ast (refIndex r ++ [zAst]), .row .bool (refHas r ++ [[.bit false]])], i)) := rfl
theorem run_index (c : Cx) (f i : Nat) : run c (f + 1) .index i = ( need c [91] i fun i => bnd (run c f .expr i) fun e i => need c [93] i fun i => .ok (e, i)) := rfl
theorem run_arg (c : Cx) (f i : Nat) : run c (f + 1) .arg i = (
      if c.kindAt i = 1 then bnd (run c f .ref i) fun r i => .ok (.bit false :: .bit false :: aRef r, i)
      else if c.keyAt i = [95] then .ok (.bit false :: .bit true :: zAst, i + 1)
      else if c.keyAt i = [101, 118, 97, 108] then need c [40] (i + 1) fun i => bnd (run c f .expr i) fun e i => need c [41] i fun i => .ok (.bit true :: .bit false :: e, i)
      else if c.kindAt i = 2 ∨ c.keyAt i = [45] ∨ c.keyAt i = [116, 114, 117, 101] ∨ c.keyAt i = [102, 97, 108, 115, 101] then bnd (run c f .unary i) fun e i => .ok (.bit true :: .bit false :: e, i)
      else .error (c.refuse i)) := rfl
theorem run_row (c : Cx) (f i : Nat) (g : Goal) (t : Ty) (els : List (List D)) : run c (f + 1) (.row g t els) i = ( bnd (run c f g i) fun e i => run c f (.rowMore g t (els ++ [e])) i) := rfl
theorem run_rowMore (c : Cx) (f i : Nat) (g : Goal) (t : Ty) (els : List (List D)) : run c (f + 1) (.rowMore g t els) i = ( if c.keyAt i = [44] then bnd (run c f g (i + 1)) fun e i => run c f (.rowMore g t (els ++ [e])) i else .ok ([.row t els], i)) := rfl
theorem run_inParens (c : Cx) (f i : Nat) (g : Goal) (t : Ty) : run c (f + 1) (.inParens g t) i = ( need c [40] i fun i => if c.keyAt i = [41] then need c [41] i fun i => .ok ([.row t []], i) else bnd (run c f (.row g t []) i) fun d i => need c [41] i fun i => .ok (d, i)) := rfl
theorem run_inBraces (c : Cx) (f i : Nat) (g : Goal) (t : Ty) : run c (f + 1) (.inBraces g t) i = ( need c [123] i fun i => bnd (run c f (.row g t []) i) fun d i => need c [125] i fun i => .ok (d, i)) := rfl
theorem run_message (c : Cx) (f i : Nat) (g : Goal) (t : Ty) : run c (f + 1) (.message g t) i = ( bnd (run c f g i) fun e i =>
        if c.keyAt i = [40] then bnd (run c f (.row g t [e]) (i + 1)) fun d i => need c [41] i fun i => .ok (d, i)
        else if c.keyAt i = [44] then run c f (.row g t [e]) (i + 1) else .ok ([.row t [e]], i)) := rfl
theorem run_plainType (c : Cx) (f i : Nat) : run c (f + 1) .plainType i = ( if isType c i then .ok ([.num (typeOf (c.keyAt i))], i + 1) else .error (c.refuse i)) := rfl
theorem run_decls (c : Cx) (f i : Nat) : run c (f + 1) .decls i = ( bnd (run c f .decl i) fun d i => run c f (.declsMore [d]) i) := rfl
theorem run_declsMore (c : Cx) (f i : Nat) (els : List (List D)) : run c (f + 1) (.declsMore els) i = (
      if c.keyAt i = [59] then (if isType c (i + 1) = true ∨ c.kindAt (i + 1) = 1 then bnd (run c f .decl (i + 1)) fun d i => run c f (.declsMore (els ++ [d])) i else run c f (.declsMore els) (i + 1))
      else .ok ([.row .decl els], i)) := rfl
theorem run_decl (c : Cx) (f i : Nat) : run c (f + 1) .decl i = (
      if c.kindAt i = 1 then bnd (run c f (.row .variable .var []) (i + 1)) fun vs j => .ok ([.num (-1), .str (c.textAt i)] ++ vs ++ [.num (c.place i)], j)
      else bnd (run c f .plainType i) fun t j => bnd (run c f (.row .variable .var []) j) fun vs j => .ok (t ++ [.str []] ++ vs ++ [.num (c.place i)], j)) := rfl
theorem run_variable (c : Cx) (f i : Nat) : run c (f + 1) .variable i = ( bnd (run c f .name i) fun nm i =>
        if c.keyAt i = [91] then bnd (run c f .index i) fun e i => (if c.keyAt i = [61] then run c f (.beginning (splice zVar 0 (nm ++ [.bit true] ++ e))) (i + 1) else .ok (splice zVar 0 (nm ++ [.bit true] ++ e), i))
        else if c.keyAt i = [61] then run c f (.beginning (splice zVar 0 nm)) (i + 1) else .ok (splice zVar 0 nm, i)) := rfl
theorem run_beginning (c : Cx) (f i : Nat) (v : List D) : run c (f + 1) (.beginning v) i = (
      if c.keyAt i = [91] then bnd (run c f .index i) fun e i => need c [111, 102] i fun i => bnd (run c f (.inBraces .plainType .int) i) fun ts i => .ok (splice v 12 (e ++ [.bit true] ++ ts), i)
      else bnd (run c f .expr i) fun e i => .ok (splice v 11 (.bit true :: e), i)) := rfl
theorem run_body (c : Cx) (f i : Nat) : run c (f + 1) .body i = ( need c [123] i fun i => bnd (run c f .steps i) fun l i => need c [125] i fun i => .ok (l, i)) := rfl
theorem run_steps (c : Cx) (f i : Nat) : run c (f + 1) .steps i = ( bnd (run c f .step i) fun s i => run c f (.stepsMore [s]) i) := rfl
theorem run_stepsMore (c : Cx) (f i : Nat) (els : List (List D)) : run c (f + 1) (.stepsMore els) i = ( match anotherStep c i with
        | .error e => .error e
        | .ok (false, j) => .ok ([.row .stmt els], j)
        | .ok (true, j) => bnd (run c f .step j) fun s i => run c f (.stepsMore (els ++ [s])) i) := rfl
theorem run_step (c : Cx) (f i : Nat) : run c (f + 1) .step i = (
      if isType c i = true ∨ (c.kindAt i = 1 ∧ c.kindAt (i + 1) = 1) then bnd (run c f .decl i) fun d j => .ok (splice (splice zStmt 0 [.num 1, .num (c.place i)]) 22 d, j)
      else bnd (run c f .stmt i) fun s i => if c.keyAt i = [117, 110, 108, 101, 115, 115] then run c f (.unless s) (i + 1) else .ok (s, i)) := rfl
theorem run_unless (c : Cx) (f i : Nat) (s : List D) : run c (f + 1) (.unless s) i = ( bnd (run c f .stmt i) fun t i => .ok (splice (splice zStmt 0 [.num 15, s.getD 1 (.num 0)]) 27 [.row .stmt [s, t]], i)) := rfl
theorem run_stmt (c : Cx) (f i : Nat) : run c (f + 1) .stmt i = (
      let s := splice zStmt 1 [.num (c.place i)]
      if c.kindAt i = 1 then run c f (.namedStmt s) i
      else if c.keyAt i = [123] then bnd (run c f .body i) fun l i => .ok (splice (splice s 0 [.num 14]) 27 l, i)
      else if c.keyAt i = [97, 116, 111, 109, 105, 99] then bnd (run c f .body (i + 1)) fun l i => .ok (splice (splice s 0 [.num 12]) 27 l, i)
      else if c.keyAt i = [100, 95, 115, 116, 101, 112] then bnd (run c f .body (i + 1)) fun l i => .ok (splice (splice s 0 [.num 13]) 27 l, i)
      else if c.keyAt i = [105, 102] then bnd (run c f (.options [102, 105]) i) fun l i => .ok (splice (splice s 0 [.num 7]) 26 l, i)
      else if c.keyAt i = [100, 111] then bnd (run c f (.options [111, 100]) i) fun l i => .ok (splice (splice s 0 [.num 8]) 26 l, i)
      else run c f (.simple s) i) := rfl
theorem run_options (c : Cx) (f i : Nat) (fin : List UInt8) : run c (f + 1) (.options fin) i = ( bnd (run c f .option (i + 1)) fun l i => run c f (.optionsMore fin [l]) i) := rfl
theorem run_optionsMore (c : Cx) (f i : Nat) (fin : List UInt8) (els : List (List D)) : run c (f + 1) (.optionsMore fin els) i = ( if c.keyAt i = fin then .ok ([.row .stmts els], i + 1) else bnd (run c f .option i) fun l i => run c f (.optionsMore fin (els ++ [l])) i) := rfl
theorem run_option (c : Cx) (f i : Nat) : run c (f + 1) .option i = ( need c [58, 58] i fun i => run c f .steps i) := rfl
theorem run_simple (c : Cx) (f i : Nat) (s : List D) : run c (f + 1) (.simple s) i = (
      if c.keyAt i = [98, 114, 101, 97, 107] then .ok (splice s 0 [.num 9], i + 1)
      else if c.keyAt i = [115, 107, 105, 112] then .ok (splice s 0 [.num 19], i + 1)
      else if c.keyAt i = [101, 108, 115, 101] then .ok (splice s 0 [.num 20], i + 1)
      else if c.keyAt i = [103, 111, 116, 111] then bnd (run c f .name (i + 1)) fun nm i => .ok (splice (splice s 0 [.num 10]) 2 nm, i)
      else if c.keyAt i = [97, 115, 115, 101, 114, 116] then run c f (.assertion s) i
      else if c.keyAt i = [112, 114, 105, 110, 116, 102] then run c f (.print s) i
      else bnd (run c f .expr i) fun e i => .ok (splice (splice s 0 [.num 2]) 11 e, i)) := rfl
theorem run_assertion (c : Cx) (f i : Nat) (s : List D) : run c (f + 1) (.assertion s) i = ( need c [97, 115, 115, 101, 114, 116] i fun i => need c [40] i fun i => bnd (run c f .expr i) fun e i => need c [41] i fun i => .ok (splice (splice s 0 [.num 16]) 11 e, i)) := rfl
theorem run_print (c : Cx) (f i : Nat) (s : List D) : run c (f + 1) (.print s) i = ( need c [112, 114, 105, 110, 116, 102] i fun i => need c [40] i fun i =>
        if c.kindAt i = 3 then
          (if c.keyAt (i + 1) = [44] then bnd (run c f (.row .expr .ast []) (i + 2)) fun es j => need c [41] j fun j => .ok (splice (splice (splice s 0 [.num 17]) 3 [.str (c.textAt i)]) 20 es, j)
           else need c [41] (i + 1) fun j => .ok (splice (splice s 0 [.num 17]) 3 [.str (c.textAt i)], j))
        else .error (c.refuse i)) := rfl
theorem run_namedStmt (c : Cx) (f i : Nat) (s : List D) : run c (f + 1) (.namedStmt s) i = (
      if c.keyAt (i + 1) = [58] then bnd (run c f .stmt (i + 2)) fun t j => .ok (splice (splice (splice s 0 [.num 11]) 2 [.str (c.textAt i)]) 27 [.row .stmt [t]], j)
      else if c.keyAt (i + 1) = [40] then bnd (run c f (.inParens .expr .ast) (i + 1)) fun es j => .ok (splice (splice (splice s 0 [.num 18]) 2 [.str (c.textAt i)]) 20 es, j)
      else run c f (.onVariable s) i) := rfl
theorem run_onVariable (c : Cx) (f i : Nat) (s : List D) : run c (f + 1) (.onVariable s) i = ( bnd (run c f .ref i) fun r j =>
        if isPoll c j then bnd (run c f .expr i) fun e j => .ok (splice (splice s 0 [.num 2]) 11 e, j)
        else if c.keyAt j = [61] then bnd (run c f .expr (j + 1)) fun e j => .ok (splice (splice (splice s 0 [.num 3]) 8 r) 11 e, j)
        else if c.keyAt j = [43, 43] then .ok (splice (splice (splice s 0 [.num 4]) 4 [.num 1]) 8 r, j + 1)
        else if c.keyAt j = [45, 45] then .ok (splice (splice (splice s 0 [.num 4]) 4 [.num (-1)]) 8 r, j + 1)
        else if c.keyAt j = [33] ∨ c.keyAt j = [33, 33] then bnd (run c f (.message .expr .ast) (j + 1)) fun es k => .ok (splice (splice (splice (splice s 0 [.num 5]) 5 [.bit (c.keyAt j = [33, 33])]) 8 r) 20 es, k)
        else if c.keyAt j = [63] ∨ c.keyAt j = [63, 63] then run c f (.received (splice (splice (splice s 0 [.num 6]) 6 [.bit (c.keyAt j = [63, 63])]) 8 r)) (j + 1)
        else bnd (run c f .expr i) fun e j => .ok (splice (splice s 0 [.num 2]) 11 e, j)) := rfl
theorem run_received (c : Cx) (f i : Nat) (s : List D) : run c (f + 1) (.received s) i = (
      if c.keyAt i = [60] then bnd (run c f (.message .arg .arg) (i + 1)) fun as i => need c [62] i fun i => .ok (splice (splice s 7 [.bit true]) 21 as, i)
      else bnd (run c f (.message .arg .arg) i) fun as i => .ok (splice (splice s 7 [.bit false]) 21 as, i)) := rfl
theorem run_program (c : Cx) (f i : Nat) (els : List (List D)) : run c (f + 1) (.program els) i = (
      if i < c.T.length then (if c.keyAt i = [59] then run c f (.program els) (i + 1) else bnd (run c f .unit i) fun u i => run c f (.program (els ++ [u])) i) else .ok ([.row .unit els], i)) := rfl
theorem run_unit (c : Cx) (f i : Nat) : run c (f + 1) .unit i = (
      let u := splice zUnit 1 [.num (c.place i)]
      if c.keyAt i = [116, 121, 112, 101, 100, 101, 102] then run c f (.typedef u) i
      else if c.keyAt i = [97, 99, 116, 105, 118, 101] ∨ c.keyAt i = [112, 114, 111, 99, 116, 121, 112, 101] then run c f (.proctype u) i
      else if c.keyAt i = [105, 110, 105, 116] then bnd (run c f .body (i + 1)) fun l i => .ok (splice (splice u 0 [.num 5]) 20 l, i)
      else if c.keyAt i = [110, 101, 118, 101, 114] then bnd (run c f .body (i + 1)) fun l i => .ok (splice (splice u 0 [.num 6]) 20 l, i)
      else if c.keyAt i = [105, 110, 108, 105, 110, 101] then run c f (.inline u) i
      else if c.keyAt i = [108, 116, 108] then run c f (.ltl u) i
      else run c f (.mtypeOrDecl u) i) := rfl
theorem run_mtypeOrDecl (c : Cx) (f i : Nat) (u : List D) : run c (f + 1) (.mtypeOrDecl u) i = (
      if c.keyAt i = [109, 116, 121, 112, 101] ∧ (c.keyAt (i + 1) = [61] ∨ c.keyAt (i + 1) = [123]) then
        bnd (run c f (.inBraces .name .str) (if c.keyAt (i + 1) = [61] then i + 2 else i + 1)) fun ns i => .ok (splice (splice u 0 [.num 1]) 4 ns, i)
      else bnd (run c f .decl i) fun d i => .ok (splice (splice u 0 [.num 2]) 15 d, i)) := rfl
theorem run_typedef (c : Cx) (f i : Nat) (u : List D) : run c (f + 1) (.typedef u) i = ( need c [116, 121, 112, 101, 100, 101, 102] i fun i => bnd (run c f .name i) fun nm i => need c [123] i fun i => bnd (run c f .decls i) fun ds i => need c [125] i fun i => .ok (splice (splice (splice u 0 [.num 3]) 2 nm) 19 ds, i)) := rfl
theorem run_proctype (c : Cx) (f i : Nat) (u : List D) : run c (f + 1) (.proctype u) i = (
      let rest := fun (u : List D) (i : Nat) => need c [112, 114, 111, 99, 116, 121, 112, 101] i fun i => bnd (run c f .name i) fun nm i => need c [40] i fun i =>
        if c.keyAt i = [41] then need c [41] i fun i => bnd (run c f .body i) fun l i => .ok (splice (splice u 2 nm) 20 l, i)
        else bnd (run c f .decls i) fun ds i => need c [41] i fun i => bnd (run c f .body i) fun l i => .ok (splice (splice (splice u 2 nm) 19 ds) 20 l, i)
      if c.keyAt i = [97, 99, 116, 105, 118, 101] then bnd (run c f (.active (splice u 0 [.num 4])) (i + 1)) rest else rest (splice u 0 [.num 4]) i) := rfl
theorem run_active (c : Cx) (f i : Nat) (u : List D) : run c (f + 1) (.active u) i = ( if c.keyAt i = [91] then bnd (run c f .index i) fun e i => .ok (splice u 5 (.bit true :: e), i) else .ok (splice u 5 (.bit true :: aNum 1), i)) := rfl
theorem run_inline (c : Cx) (f i : Nat) (u : List D) : run c (f + 1) (.inline u) i = ( need c [105, 110, 108, 105, 110, 101] i fun i => bnd (run c f .name i) fun nm i => bnd (run c f (.inParens .name .str) i) fun ns i => bnd (run c f .body i) fun l i => .ok (splice (splice (splice (splice u 0 [.num 7]) 2 nm) 4 ns) 20 l, i)) := rfl
theorem run_ltl (c : Cx) (f i : Nat) (u : List D) : run c (f + 1) (.ltl u) i = ( need c [108, 116, 108] i fun i =>
        let rest := fun (u : List D) (i : Nat) => need c [123] i fun j => match braceF c (c.T.length + 2) 1 j with
          | some k => .ok (splice u 3 [.str (((c.text.take (c.place k)).drop (c.place i + 1)))], k + 1)
          | none => .error (21, c.len)
        if c.kindAt i = 1 then rest (splice (splice u 0 [.num 8]) 2 [.str (c.textAt i)]) (i + 1) else rest (splice u 0 [.num 8]) i) := rfl

end Go.Proofs.YthmdgbmodgfcmaaGreatDoor
