/-
  JFeet0, JFeet1, JThrIs, JBehind, JFeet2.
-/
import Derived.Test.YtiinmaedmkgfoaaDoorM15
import Derived.Test.YtiinmaedmkgfoaaDoorM34
import Derived.Test.YtiinmaedmkgfoaaDoorM36
import Derived.Test.YtiinmaedmkgfoaaDoorM41
import Derived.Test.YtiinmaedmkgfoaaDoorM44
/-
  Feet in memory, while they are reckoned: laws on worlds.
-/
set_option linter.unusedVariables false
set_option linter.unusedSimpArgs false
namespace Go.Proofs.YtiinmaedmkgfoaaDoor
open Go.RowKit

instance : Inhabited Ft := ⟨⟨0, 0, 0⟩⟩
def ft0 : Ft := ⟨0, 0, 0⟩
def Ft.cells (f : Ft) : List Value := [.int .u64 (f.r : Int), .int .u64 (f.w : Int), .int .u64 (f.t : Int)]
def ftflat : List Ft → List Value
  | [] => []
  | s :: r => s.cells ++ ftflat r
theorem ftflat_append (a b : List Ft) : ftflat (a ++ b) = ftflat a ++ ftflat b := by
  induction a with
  | nil => rfl
  | cons s r ih => rw [List.cons_append, ftflat, ftflat, ih, List.append_assoc]
theorem ftflat_snoc (a : List Ft) (x : Ft) : ftflat (a ++ [x]) = ftflat a ++ x.cells := by rw [ftflat_append]; simp [ftflat]
theorem ftflat_length (l : List Ft) : (ftflat l).length = l.length * 3 := by
  induction l with
  | nil => rfl
  | cons s r ih => rw [ftflat, List.length_append, ih, List.length_cons]; simp [Ft.cells]; omega
theorem ftflat_get : ∀ (l : List Ft) (i : Nat) (h : i < l.length) (k : Nat), k < 3 → (ftflat l)[i * 3 + k]? = (l[i].cells)[k]?
  | s :: r, 0, h, k, hk => by
    rw [ftflat, Nat.zero_mul, Nat.zero_add, List.getElem?_append_left (by simpa [Ft.cells] using hk)]
    rfl
  | s :: r, i + 1, h, k, hk => by
    have h' : i < r.length := by simpa using h
    rw [ftflat, List.getElem?_append_right (by simp [Ft.cells]; omega), show (i + 1) * 3 + k - s.cells.length = i * 3 + k by simp [Ft.cells]; omega, ftflat_get r i h' k hk]
    rfl
theorem ftflat_rep (n : Nat) : ftflat (List.replicate n ft0) = List.replicate (n * 3) (.int .u64 0) := by
  induction n with
  | zero => rfl
  | succ n ih => rw [List.replicate_succ, ftflat, ih, show (n + 1) * 3 = 3 + n * 3 by omega, ← List.replicate_append_replicate]; rfl
theorem made_feet (n : Nat) : madeCells (Value.agg #[.int .u64 0, .int .u64 0, .int .u64 0]).cells (n * 3) = (ftflat (List.replicate n ft0)).toArray := by
  rw [ftflat_rep]
  apply Array.ext'
  apply List.ext_getElem
  · simp [size_madeCells]
  · intro i h1 h2
    have hi : i < n * 3 := by simpa [size_madeCells] using h1
    have h3 : i % 3 = 0 ∨ i % 3 = 1 ∨ i % 3 = 2 := by omega
    simp only [madeCells, Array.toList_map, Array.toList_range, List.getElem_map, List.getElem_range, List.toList_toArray, List.getElem_replicate, Value.cells]
    have hs : (#[Value.int .u64 0, .int .u64 0, .int .u64 0] : Array Value).size = 3 := rfl
    rw [hs]
    rcases h3 with h | h | h <;> rw [h] <;> rfl
theorem made_slices (n : Nat) : madeCells (Value.slice none 0 0).cells (n * 1) = (List.replicate n (Value.slice none 0 0)).toArray := by
  rw [Nat.mul_one]
  apply Array.ext'
  exact toList_madeCells_one _ _
theorem row_ft {w : World} {g : Nat} {L : List Ft} (h : w.heap[g]? = some (.cells (ftflat L).toArray 145 (0, 0))) {i : Nat} (hi : i < L.length) : FtAt w g (i * 3) L[i] := by
  have hc : ∀ k v, k < 3 → (L[i].cells)[k]? = some v → w.cell? ⟨g, i * 3 + k, none⟩ = some v := fun k v hk hv => by
    rw [cell_blk h, List.getElem?_toArray, ftflat_get L i hi k hk]
    exact hv
  exact ⟨hc 0 _ (by omega) rfl, hc 1 _ (by omega) rfl, hc 2 _ (by omega) rfl⟩
theorem row_wr {w w' : World} {g : Nat} {L : List Ft} (h : w.heap[g]? = some (.cells (ftflat L).toArray 145 (0, 0))) {i : Nat} (hi : i < L.length) {f : Ft} (hw : WrJ w w' g (i * 3) 3 145 [.int .u64 (f.r : Int), .int .u64 (f.w : Int), .int .u64 (f.t : Int)]) : w'.heap[g]? = some (.cells (ftflat (L.set i f)).toArray 145 (0, 0)) := by
  obtain ⟨cs', h1, h2, h3, h4⟩ := hw.blk _ h (by rw [List.size_toArray, ftflat_length]; omega)
  rw [h1]
  have hl : cs'.toList.length = (ftflat (L.set i f)).length := by rw [Array.length_toList, h2, List.size_toArray, ftflat_length, ftflat_length, List.length_set]
  have : cs'.toList = ftflat (L.set i f) := by
    apply List.ext_getElem?
    intro j
    rcases Nat.lt_or_ge j (L.length * 3) with hj | hj
    · have e : j = j / 3 * 3 + j % 3 := by omega
      have hq : j / 3 < L.length := by omega
      have hk : j % 3 < 3 := by omega
      rw [Array.getElem?_toList, e, ftflat_get (L.set i f) (j / 3) (by rw [List.length_set]; exact hq) (j % 3) hk]
      by_cases hji : j / 3 = i
      · subst hji
        rw [h4 _ hk, List.getElem_set_self]
        rfl
      · rw [List.getElem_set_ne (fun e => hji e.symm), h3 _ (by omega), List.getElem?_toArray, ftflat_get L _ hq _ hk]
    · rw [List.getElem?_eq_none (by rw [hl, ftflat_length, List.length_set]; exact hj), List.getElem?_eq_none (by rw [ftflat_length, List.length_set]; exact hj)]
  rw [← this, Array.toArray_toList]

/-- A row of feet as it lies: in a block of Z. -/
structure FR where
  fs : List Ft
  vo : Option Addr
  vc : Nat
def FR.val (x : FR) : Value := .slice x.vo x.fs.length x.vc
structure FRZ (A : World) (Z : Nat → Prop) (x : FR) : Prop where
  row : x.fs.length = 0 ∨ ∃ g, x.vo = some ⟨g, 0, none⟩ ∧ Z g ∧ ∀ k (h : k < x.fs.length), FtAt A g (k * 3) x.fs[k]
theorem FRZ.mv {S Z Z' : Nat → Prop} {A A' : World} {x : FR} (h : FRZ A Z x) (hm : Mv S A A') (hS : ∀ b, Z b → ¬ S b) (hZ : ∀ b, Z b → Z' b) : FRZ A' Z' x :=
  ⟨h.row.imp id fun ⟨g, h1, h2, h3⟩ => ⟨g, h1, hZ g h2, fun k hk => (h3 k hk).mv hm (hS g h2)⟩⟩
theorem frz_row {A : World} {H : Nat} {va : Option Addr} {vac : Nat} {fs : List Ft} (h : A.ownsRow H 145 3 (.slice va fs.length vac) fs.length (ftflat fs)) : FRZ A (fun b => (Value.slice va fs.length vac).ownBlock = some b) ⟨fs, va, vac⟩ := by
  refine ⟨?_⟩
  rcases h.2 with ⟨_, hn⟩ | ⟨g, cap, cur, hv, _⟩
  · exact .inl hn
  · have hvo : va = some ⟨g, 0, none⟩ := by simp only [Value.slice.injEq] at hv; exact hv.1
    subst hvo
    refine .inr ⟨g, rfl, rfl, fun k hk => ?_⟩
    have hc : ∀ q v', q < 3 → (fs[k].cells)[q]? = some v' → A.cell? ⟨g, k * 3 + q, none⟩ = some v' := fun q v' hq hv' => by
      have := h.cells (g := g) rfl (k * 3 + q) v' (by rw [ftflat_get fs k hk q hq]; exact hv')
      rwa [add_block] at this
    exact ⟨hc 0 _ (by omega) rfl, hc 1 _ (by omega) rfl, hc 2 _ (by omega) rfl⟩

theorem c_infoFt : (Tryd.prog.info? 145).map (fun i => (i.zero, i.size, i.bytes)) = some (some (.agg #[.int .u64 0, .int .u64 0, .int .u64 0]), 3, 24) := by kernel_rfl
theorem c_infoFts : (Tryd.prog.info? 115).map (fun i => (i.zero, i.size, i.bytes)) = some (some (.slice none 0 0), 1, 24) := by kernel_rfl

/-- What a node's arcs do, each; together. -/
def arcsF (l : List TN) (ps : List (Int × Int)) (x : TN) : List Ft := x.arcs.map fun a => footN ps x (l.getD a.to.toNat default) a
def joinAll (fs : List Ft) : Ft := fs.foldl Ft.join ft0
theorem joinAll_snoc (fs : List Ft) (f : Ft) : joinAll (fs ++ [f]) = (joinAll fs).join f := by simp [joinAll]
theorem small0 : ft0.Small := ⟨by decide, by decide, by decide⟩
theorem joinAll_small {fs : List Ft} (h : ∀ f ∈ fs, f.Small) : (joinAll fs).Small := by
  have key : ∀ (fs : List Ft) (a : Ft), a.Small → (∀ f ∈ fs, f.Small) → (fs.foldl Ft.join a).Small := by
    intro fs
    induction fs with
    | nil => exact fun a ha _ => ha
    | cons f r ih => exact fun a ha hf => ih _ (ha.join (hf f (by simp))) (fun g hg => hf g (by simp [hg]))
  exact key fs ft0 small0 h
theorem foot_small {ps : List (Int × Int)} (hl : ps.length ≤ 60) (x y : TN) {a : TA} {size objs : Int} (hob : objs ≤ 16) (h : taB size objs a = true) : (footN ps x y a).Small := by
  obtain ⟨h1, h2, _⟩ := taB_parts h
  have ht : (if a.set = true then aboutN ps a.setObject else 0) < 18446744073709551616 := by split; exact about_lt hl _; decide
  refine ⟨?_, ?_, ?_⟩
  · unfold footN
    simp only
    split
    · rename_i hh
      have := h1 hh
      have h64 : 2 ^ a.object.toNat < 2 ^ 64 := Nat.pow_lt_pow_right (by decide) (by omega)
      exact h64
    · decide
  · unfold footN
    simp only
    split
    · rename_i hh
      have := (h2 hh).1
      have h64 : 2 ^ a.setObject.toNat < 2 ^ 64 := Nat.pow_lt_pow_right (by decide) (by omega)
      exact h64
    · decide
  · unfold footN
    simp only
    split
    · exact Nat.or_lt_two_pow (n := 64) ht (by decide)
    · exact ht

end Go.Proofs.YtiinmaedmkgfoaaDoor
/-
  Feet of a process in memory, while they are reckoned: what is known between two nodes, two arcs.
-/
set_option linter.unusedVariables false
set_option linter.unusedSimpArgs false
namespace Go.Proofs.YtiinmaedmkgfoaaDoor
open Go.RowKit

/-- What the three rows and the result hold. -/
structure F3 (A : World) (fb ga gh ge n : Nat) (AV : List Value) (Hs Es : List Ft) : Prop where
  fbx : A.heap[fb]? = some (.cells #[.slice (some ⟨ga, 0, none⟩) n n, .slice (some ⟨gh, 0, none⟩) n n, .slice (some ⟨ge, 0, none⟩) n n] 117 (0, 0))
  av : A.heap[ga]? = some (.cells AV.toArray 115 (0, 0))
  hs : A.heap[gh]? = some (.cells (ftflat Hs).toArray 145 (0, 0))
  es : A.heap[ge]? = some (.cells (ftflat Es).toArray 145 (0, 0))
  al : AV.length = n
  hl : Hs.length = n
  el : Es.length = n
  ne : gh ≠ ge
theorem F3.mv {S : Nat → Prop} {A A' : World} {fb ga gh ge n : Nat} {AV : List Value} {Hs Es : List Ft} (h : F3 A fb ga gh ge n AV Hs Es) (hm : Mv S A A') (h1 : ¬ S fb) (h2 : ¬ S ga) (h3 : ¬ S gh) (h4 : ¬ S ge) : F3 A' fb ga gh ge n AV Hs Es :=
  ⟨hm.heap h.fbx h1, hm.heap h.av h2, hm.heap h.hs h3, hm.heap h.es h4, h.al, h.hl, h.el, h.ne⟩
theorem F3.nu {A A' : World} {fb ga gh ge n : Nat} {AV : List Value} {Hs Es : List Ft} (h : F3 A fb ga gh ge n AV Hs Es) (hm : Nu A A') : F3 A' fb ga gh ge n AV Hs Es := h.mv hm id id id id
theorem F3.tys {A : World} {fb ga gh ge n : Nat} {AV : List Value} {Hs Es : List Ft} (h : F3 A fb ga gh ge n AV Hs Es) : fb ≠ ga ∧ fb ≠ gh ∧ fb ≠ ge ∧ ga ≠ gh ∧ ga ≠ ge := by
  have h1 := h.fbx
  have h2 := h.av
  have h3 := h.hs
  have h4 := h.es
  refine ⟨fun e => ?_, fun e => ?_, fun e => ?_, fun e => ?_, fun e => ?_⟩
  · rw [e, h2] at h1; simp at h1
  · rw [e, h3] at h1; simp at h1
  · rw [e, h4] at h1; simp at h1
  · rw [e, h3] at h2; simp at h2
  · rw [e, h4] at h2; simp at h2

/-- Rows that are settled. -/
structure FZ (A : World) (gh ge : Nat) (AV : List Value) (Hs : List Ft) (rows : List FR) (Z : Nat → Prop) : Prop where
  st : ∀ j (h : j < rows.length), AV[j]? = some rows[j].val ∧ FRZ A Z rows[j] ∧ Hs[j]? = some (joinAll rows[j].fs)
  zt : ∀ b, Z b → b ≠ gh ∧ b ≠ ge ∧ ∃ cs, A.heap[b]? = some (.cells cs 145 (0, 0))
theorem FZ.mv {S : Nat → Prop} {A A' : World} {gh ge : Nat} {AV : List Value} {Hs : List Ft} {rows : List FR} {Z : Nat → Prop} (h : FZ A gh ge AV Hs rows Z) (hm : Mv S A A') (hS : ∀ b, Z b → ¬ S b) : FZ A' gh ge AV Hs rows Z :=
  ⟨fun j hj => ⟨(h.st j hj).1, (h.st j hj).2.1.mv hm hS (fun _ h => h), (h.st j hj).2.2⟩, fun b hb => by
    obtain ⟨h1, h2, cs, h3⟩ := h.zt b hb
    exact ⟨h1, h2, cs, hm.heap h3 (hS b hb)⟩⟩

/-- Between two nodes. -/
structure FO (H : Nat) (A : World) (fb ga gh ge n : Nat) (AV : List Value) (Hs : List Ft) (rows : List FR) (Z : Nat → Prop) : Prop where
  f3 : F3 A fb ga gh ge n AV Hs (List.replicate n ft0)
  fz : FZ A gh ge AV Hs rows Z
  rest : ∀ j, rows.length ≤ j → j < n → AV[j]? = some (.slice none 0 0) ∧ Hs[j]? = some ft0
  rl : rows.length ≤ n
theorem FO.nu {H : Nat} {A A' : World} {fb ga gh ge n : Nat} {AV : List Value} {Hs : List Ft} {rows : List FR} {Z : Nat → Prop} (h : FO H A fb ga gh ge n AV Hs rows Z) (hm : Nu A A') : FO H A' fb ga gh ge n AV Hs rows Z :=
  ⟨h.f3.nu hm, h.fz.mv hm (fun _ _ => id), h.rest, h.rl⟩

/-- Between two arcs. -/
structure FI (H : Nat) (A : World) (fb ga gh ge n : Nat) (AV : List Value) (Hs : List Ft) (rows : List FR) (Z : Nat → Prop) (va : Option Addr) (vac : Nat) (fs : List Ft) (hv : Ft) : Prop where
  f3 : F3 A fb ga gh ge n AV Hs (List.replicate n ft0)
  fz : FZ A gh ge AV Hs rows Z
  cur : AV[rows.length]? = some (.slice va fs.length vac) ∧ Hs[rows.length]? = some hv
  rest : ∀ j, rows.length < j → j < n → AV[j]? = some (.slice none 0 0) ∧ Hs[j]? = some ft0
  rl : rows.length < n
  row : A.ownsRow H 145 3 (.slice va fs.length vac) fs.length (ftflat fs)
  rne : ∀ b, (Value.slice va fs.length vac).ownBlock = some b → ¬ Z b ∧ b ≠ gh ∧ b ≠ ge
theorem FI.nu {H : Nat} {A A' : World} {fb ga gh ge n : Nat} {AV : List Value} {Hs : List Ft} {rows : List FR} {Z : Nat → Prop} {va : Option Addr} {vac : Nat} {fs : List Ft} {hv : Ft} (h : FI H A fb ga gh ge n AV Hs rows Z va vac fs hv) (hm : Nu A A') : FI H A' fb ga gh ge n AV Hs rows Z va vac fs hv :=
  ⟨h.f3.nu hm, h.fz.mv hm (fun _ _ => id), h.cur, h.rest, h.rl, row_mv hm h.row (fun _ _ => id), h.rne⟩
theorem FO.start {H : Nat} {A : World} {fb ga gh ge n : Nat} {AV : List Value} {Hs : List Ft} {rows : List FR} {Z : Nat → Prop} (h : FO H A fb ga gh ge n AV Hs rows Z) (hl : rows.length < n) : FI H A fb ga gh ge n AV Hs rows Z none 0 [] ft0 :=
  ⟨h.f3, h.fz, h.rest _ (Nat.le_refl _) hl, fun j hj hn => h.rest j (by omega) hn, hl, ⟨rfl, .inl ⟨rfl, rfl⟩⟩, fun b hb => absurd hb (by simp [Value.ownBlock])⟩
theorem FI.done {H : Nat} {A : World} {fb ga gh ge n : Nat} {AV : List Value} {Hs : List Ft} {rows : List FR} {Z : Nat → Prop} {va : Option Addr} {vac : Nat} {fs : List Ft} (h : FI H A fb ga gh ge n AV Hs rows Z va vac fs (joinAll fs)) : FO H A fb ga gh ge n AV Hs (rows ++ [⟨fs, va, vac⟩]) (fun b => Z b ∨ (Value.slice va fs.length vac).ownBlock = some b) := by
  have hl : (rows ++ [(⟨fs, va, vac⟩ : FR)]).length = rows.length + 1 := by simp
  refine ⟨h.f3, ⟨fun j hj => ?_, fun b hb => ?_⟩, fun j hj hn => h.rest j (by omega) hn, by have := h.rl; omega⟩
  · rcases Nat.lt_or_ge j rows.length with hlt | hge
    · rw [List.getElem_append_left hlt]
      have := h.fz.st j hlt
      exact ⟨this.1, this.2.1.mv (Mv.refl (fun _ => False) A) (fun _ _ => id) (fun _ hz => .inl hz), this.2.2⟩
    · obtain rfl : j = rows.length := by omega
      rw [List.getElem_append_right (Nat.le_refl _)]
      simp only [Nat.sub_self, List.getElem_cons_zero]
      exact ⟨h.cur.1, (frz_row h.row).mv (Mv.refl (fun _ => False) A) (fun _ _ => id) (fun _ hz => .inr hz), h.cur.2⟩
  · rcases hb with hb | hb
    · exact h.fz.zt b hb
    · obtain ⟨_, _, cs, hc⟩ := row_blk h.row hb
      exact ⟨(h.rne b hb).2.1, (h.rne b hb).2.2, cs, hc⟩

theorem FI.apart {H : Nat} {A : World} {fb ga gh ge n : Nat} {AV : List Value} {Hs : List Ft} {rows : List FR} {Z : Nat → Prop} {va : Option Addr} {vac : Nat} {fs : List Ft} {hv : Ft} (h : FI H A fb ga gh ge n AV Hs rows Z va vac fs hv) : ¬ (Value.slice va fs.length vac).ownBlock = some fb ∧ ¬ (Value.slice va fs.length vac).ownBlock = some ga := by
  refine ⟨fun e => ?_, fun e => ?_⟩
  · obtain ⟨_, _, cs', hc⟩ := row_blk h.row e
    rw [h.f3.fbx] at hc; simp at hc
  · obtain ⟨_, _, cs', hc⟩ := row_blk h.row e
    rw [h.f3.av] at hc; simp at hc

/-- One foot more in the row that is under way. -/
theorem FI.push {H : Nat} {A A5 : World} {fb ga gh ge n : Nat} {AV : List Value} {Hs : List Ft} {rows : List FR} {Z : Nat → Prop} {va : Option Addr} {vac : Nat} {fs : List Ft} {hv f : Ft} {g5 cap5 : Nat} (h : FI H A fb ga gh ge n AV Hs rows Z va vac fs hv) (hm : Mv (fun y => (Value.slice va fs.length vac).ownBlock = some y) A A5)
    (hr : A5.ownsRow H 145 3 (.slice (some ⟨g5, 0, none⟩) (fs.length + 1) cap5) (fs.length + 1) (ftflat fs ++ f.cells)) (hg : (Value.slice va fs.length vac).ownBlock = some g5 ∨ A.heap.size ≤ g5) :
    FI H (A5.setCell ⟨ga, rows.length, none⟩ (.slice (some ⟨g5, 0, none⟩) (fs.length + 1) cap5)) fb ga gh ge n (AV.set rows.length (.slice (some ⟨g5, 0, none⟩) (fs.length + 1) cap5)) Hs rows Z (some ⟨g5, 0, none⟩) cap5 (fs ++ [f]) hv := by
  have hty : ∀ (b : Nat) (cs : Array Value) (t : TypeId), A.heap[b]? = some (.cells cs t (0, 0)) → t ≠ 145 → ¬ (Value.slice va fs.length vac).ownBlock = some b := fun b cs t hb ht e => by
    obtain ⟨_, _, cs', hc⟩ := row_blk h.row e
    rw [hb] at hc; simp only [Option.some.injEq, Obj.cells.injEq] at hc; exact ht hc.2.1
  have f5 := h.f3.mv hm (hty _ _ _ h.f3.fbx (by decide)) (hty _ _ _ h.f3.av (by decide)) (fun e => (h.rne _ e).2.1 rfl) (fun e => (h.rne _ e).2.2 rfl)
  have z5 := h.fz.mv hm (fun b hb e => (h.rne b e).1 hb)
  have hm3 := Mv.setCell A5 ⟨ga, rows.length, none⟩ (.slice (some ⟨g5, 0, none⟩) (fs.length + 1) cap5)
  have htg : ∀ (b : Nat) (cs : Array Value), A5.heap[b]? = some (.cells cs 145 (0, 0)) → ¬ b = ga := fun b cs hb e => by
    rw [e, f5.av] at hb; simp at hb
  obtain ⟨t1, t2, t3, t4, t5⟩ := f5.tys
  have hl : (fs ++ [f]).length = fs.length + 1 := by simp
  have hrl := h.rl
  refine ⟨⟨hm3.heap f5.fbx t1, ?_, hm3.heap f5.hs (fun e => t4 e.symm), hm3.heap f5.es (fun e => t5 e.symm), by rw [List.length_set]; exact h.f3.al, h.f3.hl, h.f3.el, h.f3.ne⟩, ⟨fun j hj => ?_, fun b hb => ?_⟩, ⟨?_, h.cur.2⟩, fun j hj hn => ?_, h.rl, ?_, fun b hb => ?_⟩
  · rw [setCell_blk f5.av, List.setIfInBounds_toArray]
  · rw [List.getElem?_set_ne (by omega)]
    have := z5.st j hj
    exact ⟨this.1, this.2.1.mv hm3 (fun b hb e => htg b _ (z5.zt b hb).2.2.choose_spec e) (fun _ h => h), this.2.2⟩
  · obtain ⟨h1, h2, cs, h3⟩ := z5.zt b hb
    exact ⟨h1, h2, cs, hm3.heap h3 (htg b cs h3)⟩
  · rw [hl, List.getElem?_set_self (by rw [h.f3.al]; exact hrl)]
  · rw [List.getElem?_set_ne (by omega)]
    exact h.rest j hj hn
  · rw [hl, ftflat_snoc]
    exact row_mv hm3 hr (fun k hk e => by
      obtain ⟨_, _, cs, hc⟩ := row_blk hr hk
      exact htg k cs hc e)
  · simp only [Value.ownBlock, Option.some.injEq] at hb
    subst hb
    rcases hg with e | e
    · exact h.rne _ e
    · refine ⟨fun hz => ?_, fun eq => ?_, fun eq => ?_⟩
      · obtain ⟨_, _, cs, hc⟩ := h.fz.zt _ hz
        have := lt_of_block hc; omega
      · have := lt_of_block h.f3.hs; omega
      · have := lt_of_block h.f3.es; omega

/-- One foot more of those of a node together. -/
theorem FI.joins {H : Nat} {A A' : World} {fb ga gh ge n : Nat} {AV : List Value} {Hs : List Ft} {rows : List FR} {Z : Nat → Prop} {va : Option Addr} {vac : Nat} {fs : List Ft} {hv hv' : Ft} (h : FI H A fb ga gh ge n AV Hs rows Z va vac fs hv) (hw : WrJ A A' gh (rows.length * 3) 3 145 [.int .u64 (hv'.r : Int), .int .u64 (hv'.w : Int), .int .u64 (hv'.t : Int)]) :
    FI H A' fb ga gh ge n AV (Hs.set rows.length hv') rows Z va vac fs hv' := by
  obtain ⟨t1, t2, t3, t4, t5⟩ := h.f3.tys
  have hrl := h.rl
  refine ⟨⟨hw.mv.heap h.f3.fbx t2, hw.mv.heap h.f3.av t4, row_wr h.f3.hs (by rw [h.f3.hl]; exact hrl) hw, hw.mv.heap h.f3.es (fun e => h.f3.ne e.symm), h.f3.al, by rw [List.length_set]; exact h.f3.hl, h.f3.el, h.f3.ne⟩, ⟨fun j hj => ?_, fun b hb => ?_⟩, ⟨h.cur.1, ?_⟩, fun j hj hn => ?_, h.rl, ?_, h.rne⟩
  · rw [List.getElem?_set_ne (by omega)]
    have := h.fz.st j hj
    exact ⟨this.1, this.2.1.mv hw.mv (fun b hb e => (h.fz.zt b hb).1 e) (fun _ h => h), this.2.2⟩
  · obtain ⟨h1, h2, cs, h3⟩ := h.fz.zt b hb
    exact ⟨h1, h2, cs, hw.mv.heap h3 h1⟩
  · rw [List.getElem?_set_self (by rw [h.f3.hl]; exact hrl)]
  · rw [List.getElem?_set_ne (by omega)]
    exact h.rest j hj hn
  · exact row_mv hw.mv h.row (fun k hk e => (h.rne k hk).2.1 e)

end Go.Proofs.YtiinmaedmkgfoaaDoor
/-
  Raw processes of the program's in memory: laws on worlds; where a process's node stands; the first state.
-/
set_option linter.unusedVariables false
set_option linter.unusedSimpArgs false
namespace Go.Proofs.YtiinmaedmkgfoaaDoor
open Go.RowKit

theorem TXAt.keep {F : Nat → Prop} {W W' : World} {b o : Nat} {x : TX} (h : TXAt W b o x) (hk : KeepF F W W') (hF : F b) : TXAt W' b o x := ⟨cell_keep hk hF h.c0, cell_keep hk hF h.c1, cell_keep hk hF h.c2, cell_keep hk hF h.c3⟩
theorem TAAt.keep {F : Nat → Prop} {W W' : World} {b o : Nat} {x : TA} (h : TAAt W b o x) (hk : KeepF F W W') (hF : F b) : TAAt W' b o x := ⟨cell_keep hk hF h.c0, cell_keep hk hF h.c1, cell_keep hk hF h.c2, cell_keep hk hF h.c3, cell_keep hk hF h.c4, cell_keep hk hF h.c5, cell_keep hk hF h.c6, cell_keep hk hF h.c7⟩
theorem FRZ.keep {F : Nat → Prop} {W W' : World} {x : FR} (h : FRZ W F x) (hk : KeepF F W W') : FRZ W' F x :=
  ⟨h.row.imp id fun ⟨g, h1, h2, h3⟩ => ⟨g, h1, h2, fun k hl => ⟨cell_keep hk h2 (h3 k hl).c0, cell_keep hk h2 (h3 k hl).c1, cell_keep hk h2 (h3 k hl).c2⟩⟩⟩

/-- What all arcs of a process do, node by node. -/
structure PX where
  l : List TN
  txs : List TX
  g : Nat
  nc : Nat
  ga : Nat
  gh : Nat
  ge : Nat
  AV : List Value
  rows : List FR
  Hs : List Ft
  Es : List Ft
def PX.cells (p : PX) : List Value := [.slice (some ⟨p.g, 0, none⟩) p.l.length p.nc, .slice (some ⟨p.ga, 0, none⟩) p.l.length p.l.length, .slice (some ⟨p.gh, 0, none⟩) p.l.length p.l.length, .slice (some ⟨p.ge, 0, none⟩) p.l.length p.l.length]
structure PXAt (W : World) (b o : Nat) (p : PX) : Prop where
  c0 : W.cell? ⟨b, o, none⟩ = some (.slice (some ⟨p.g, 0, none⟩) p.l.length p.nc)
  c1 : W.cell? ⟨b, o + 1, none⟩ = some (.slice (some ⟨p.ga, 0, none⟩) p.l.length p.l.length)
  c2 : W.cell? ⟨b, o + 2, none⟩ = some (.slice (some ⟨p.gh, 0, none⟩) p.l.length p.l.length)
  c3 : W.cell? ⟨b, o + 3, none⟩ = some (.slice (some ⟨p.ge, 0, none⟩) p.l.length p.l.length)
theorem PXAt.keep {F : Nat → Prop} {W W' : World} {b o : Nat} {x : PX} (h : PXAt W b o x) (hk : KeepF F W W') (hF : F b) : PXAt W' b o x := ⟨cell_keep hk hF h.c0, cell_keep hk hF h.c1, cell_keep hk hF h.c2, cell_keep hk hF h.c3⟩

/-- A process of the program's: all its blocks are among F. -/
structure PIs (W : World) (F : Nat → Prop) (p : PX) : Prop where
  eq : p.txs.map TX.n = p.l
  ng : F p.g
  nat : ∀ i (h : i < p.txs.length), TXAt W p.g (i * 4) p.txs[i]
  arcs : ∀ x ∈ p.txs, x.n.arcs.length = 0 ∨ ∃ g, x.vo = some ⟨g, 0, none⟩ ∧ F g ∧ ∀ k (h : k < x.n.arcs.length), TAAt W g (k * 8) x.n.arcs[k]
  fa : F p.ga
  fh : F p.gh
  fe : F p.ge
  av : W.heap[p.ga]? = some (.cells p.AV.toArray 115 (0, 0))
  hs : W.heap[p.gh]? = some (.cells (ftflat p.Hs).toArray 145 (0, 0))
  es : W.heap[p.ge]? = some (.cells (ftflat p.Es).toArray 145 (0, 0))
  al : p.AV.length = p.l.length
  hl : p.Hs.length = p.l.length
  el : p.Es.length = p.l.length
  rl : p.rows.length = p.l.length
  st : ∀ j (h : j < p.rows.length), p.AV[j]? = some p.rows[j].val ∧ FRZ W F p.rows[j]
theorem PIs.keep {F : Nat → Prop} {W W' : World} {p : PX} (h : PIs W F p) (hk : KeepF F W W') : PIs W' F p :=
  ⟨h.eq, h.ng, fun i hi => (h.nat i hi).keep hk h.ng, fun x hx => (h.arcs x hx).imp id fun ⟨g, h1, h2, h3⟩ => ⟨g, h1, h2, fun k hl => (h3 k hl).keep hk h2⟩, h.fa, h.fh, h.fe, (hk.2 _ h.fa).trans h.av, (hk.2 _ h.fh).trans h.hs, (hk.2 _ h.fe).trans h.es, h.al, h.hl, h.el, h.rl, fun j hj => ⟨(h.st j hj).1, (h.st j hj).2.keep hk⟩⟩

def boundsN (t : Thr) : List Nat := List.replicate t.init.length 256 ++ t.procs.map List.length
def firstN (t : Thr) : List Nat := t.init.map Int.toNat ++ List.replicate t.procs.length 0
theorem boundsN_len (t : Thr) : (boundsN t).length = t.init.length + t.procs.length := by simp [boundsN]
theorem firstN_len (t : Thr) : (firstN t).length = t.init.length + t.procs.length := by simp [firstN]

/-- Raw processes of the program's: all their blocks are among F. -/
structure TIs (W : World) (F : Nat → Prop) (tb : Nat) (t : Thr) (ro : Option Addr) (rc : Nat) (fo : Option Addr) (fc : Nat) (po : Option Addr) (pc : Nat) (qo : Option Addr) (qc : Nat) (pxs : List PX) : Prop where
  ft : F tb
  blk : W.heap[tb]? = some (.cells #[.slice ro (t.init.length + t.procs.length) rc, .slice fo (t.init.length + t.procs.length) fc, .slice po t.props.length pc, .slice qo t.procs.length qc] 111 (0, 0))
  row : IntsZ W F ro (ints (boundsN t))
  first : IntsZ W F fo (ints (firstN t))
  props : t.props.length = 0 ∨ ∃ g, po = some ⟨g, 0, none⟩ ∧ F g ∧ ∀ i (h : i < t.props.length), TRAt W g (i * 2) t.props[i]
  eq : pxs.map PX.l = t.procs
  procs : t.procs.length = 0 ∨ ∃ g, qo = some ⟨g, 0, none⟩ ∧ F g ∧ ∀ p (h : p < pxs.length), PXAt W g (p * 4) pxs[p]
  pis : ∀ p ∈ pxs, PIs W F p
theorem TIs.keep {F : Nat → Prop} {W W' : World} {tb : Nat} {t : Thr} {ro : Option Addr} {rc : Nat} {fo : Option Addr} {fc : Nat} {po : Option Addr} {pc : Nat} {qo : Option Addr} {qc : Nat} {pxs : List PX} (h : TIs W F tb t ro rc fo fc po pc qo qc pxs) (hk : KeepF F W W') : TIs W' F tb t ro rc fo fc po pc qo qc pxs :=
  ⟨h.ft, (hk.2 _ h.ft).trans h.blk, h.row.keep hk, h.first.keep hk, h.props.imp id fun ⟨g, h1, h2, h3⟩ => ⟨g, h1, h2, fun i hi => ⟨cell_keep hk h2 (h3 i hi).1, cell_keep hk h2 (h3 i hi).2⟩⟩, h.eq, h.procs.imp id fun ⟨g, h1, h2, h3⟩ => ⟨g, h1, h2, fun p hp => (h3 p hp).keep hk h2⟩, fun p hp => (h.pis p hp).keep hk⟩

set_option maxHeartbeats 2000000 in
set_option maxRecDepth 20000 in
theorem place_any (w : World) (F : Nat → Prop) (tb : Nat) (t : Thr) {ro : Option Addr} {rc : Nat} {fo : Option Addr} {fc : Nat} {po : Option Addr} {pc : Nat} {qo : Option Addr} {qc : Nat} {pxs : List PX} (h : TIs w F tb t ro rc fo fc po pc qo qc pxs) (hm : mayT t = true) (p : Nat) (hp : p < t.procs.length) :
    Calls Tryd.prog 97 #[.pointer (some ⟨tb, 0, none⟩), .int .i64 (p : Int)] w fun e w' => e = .returned (.int .i64 ((t.init.length + p : Nat) : Int)) ∧ Nu w w' := by
  obtain ⟨h1, h2, _⟩ := mayT_parts hm
  have c0 := cell_blk h.blk 0
  have c3 := cell_blk h.blk 3
  simp only [List.size_toArray, List.length_cons, List.length_nil, Nat.reduceAdd, Nat.lt_add_one, Nat.reduceLT, getElem?_pos, List.getElem_toArray, List.getElem_cons_zero, List.getElem_cons_succ, Nat.zero_lt_succ] at c0 c3
  have hs : IntKind.i64.wrap (((t.init.length + t.procs.length : Nat) : Int) - (t.procs.length : Int)) = (t.init.length : Int) := by rw [IntKind.wrap_i64]; omega
  have hs2 : (((t.init.length + t.procs.length : Nat) : Int) - (t.procs.length : Int)) = (t.init.length : Int) := by omega
  go_enter Tryd.func97, Tryd.ntmps97
  go_wp2
  go_quiet (fail)
  go_wp2
  go_ret
  exact ⟨by rw [Int.natCast_add]; rfl, nu_drewN' _ _⟩

theorem first_small {t : Thr} (hm : mayT t = true) : ∀ n ∈ firstN t, n < 256 := fun n hn => by
  obtain ⟨_, _, _, h4, _⟩ := mayT_parts hm
  rcases List.mem_append.1 hn with h | h
  · obtain ⟨x, hx, rfl⟩ := List.mem_map.1 h
    have := h4 x hx
    simp only [isV, Bool.and_eq_true, decide_eq_true_eq] at this
    omega
  · rw [List.eq_of_mem_replicate h]; decide

set_option maxHeartbeats 2000000 in
set_option maxRecDepth 20000 in
theorem tBegin_any (w : World) (F : Nat → Prop) (tb : Nat) (t : Thr) {ro : Option Addr} {rc : Nat} {fo : Option Addr} {fc : Nat} {po : Option Addr} {pc : Nat} {qo : Option Addr} {qc : Nat} {pxs : List PX} (h : TIs w F tb t ro rc fo fc po pc qo qc pxs) (hm : mayT t = true) (hF : ∀ b, F b → b < w.heap.size) :
    Calls Tryd.prog 87 #[.pointer (some ⟨tb, 0, none⟩)] w fun e w' => e = .returned (.string (txt (encs (firstN t)))) ∧ Nu w w' := by
  obtain ⟨h1, h2, _⟩ := mayT_parts hm
  have c1 := cell_blk h.blk 1
  simp only [List.size_toArray, List.length_cons, List.length_nil, Nat.reduceAdd, Nat.lt_add_one, Nat.reduceLT, getElem?_pos, List.getElem_toArray, List.getElem_cons_zero, List.getElem_cons_succ, Nat.zero_lt_succ] at c1
  have HB := hid (bytesOf_walk w w.heap.size fo fc (firstN t) (h.first.at hF) (fun n hn => by have := first_small hm n hn; omega) (by rw [firstN_len]; omega))
  rw [firstN_len] at HB
  go_enter Tryd.func87, Tryd.ntmps87
  go_wp2_with (go_at_call 93; refine HB.out.mono ?_; rintro e w1 ⟨rfl, hn1⟩)
  go_ret
  exact ⟨rfl, hn1⟩

end Go.Proofs.YtiinmaedmkgfoaaDoor
/-
  The state to which an arc of a process leads: the program's behind.
-/
set_option linter.unusedVariables false
set_option linter.unusedSimpArgs false
namespace Go.Proofs.YtiinmaedmkgfoaaDoor
open Go.RowKit

/-- Numbers in a block that may be written. -/
structure RowI (w : World) (g : Nat) (xs : List Int) : Prop where
  ex : ∃ cs, w.heap[g]? = some (.cells cs 3 (0, 0)) ∧ xs.length ≤ cs.size ∧ ∀ i (h : i < xs.length), cs[i]? = some (.int .i64 xs[i])
theorem RowI.mv {S : Nat → Prop} {w w' : World} {g : Nat} {xs : List Int} (h : RowI w g xs) (hm : Mv S w w') (hS : ¬ S g) : RowI w' g xs := by
  obtain ⟨cs, h1, h2, h3⟩ := h.ex
  exact ⟨cs, hm.heap h1 hS, h2, h3⟩
theorem RowI.cell {w : World} {g : Nat} {xs : List Int} (h : RowI w g xs) {i : Nat} (hi : i < xs.length) : w.cell? ⟨g, i, none⟩ = some (.int .i64 xs[i]) ∧ w.frozen? ⟨g, i, none⟩ = false := by
  obtain ⟨cs, h1, h2, h3⟩ := h.ex
  exact ⟨by rw [cell_blk h1]; exact h3 i hi, free_blk h1 i⟩
theorem RowI.set {w : World} {g : Nat} {xs : List Int} (h : RowI w g xs) {j : Nat} (hj : j < xs.length) (u : Int) : RowI (w.setCell ⟨g, j, none⟩ (.int .i64 u)) g (xs.set j u) := by
  obtain ⟨cs, h1, h2, h3⟩ := h.ex
  refine ⟨_, setCell_blk h1, by rw [List.length_set, Array.size_setIfInBounds]; exact h2, fun i hi => ?_⟩
  have hi' : i < xs.length := by simpa using hi
  by_cases hij : i = j
  · subst hij
    rw [Array.getElem?_setIfInBounds_self_of_lt (by omega), List.getElem_set_self]
  · rw [Array.getElem?_setIfInBounds_ne (fun e => hij e.symm), List.getElem_set_ne (fun e => hij e.symm)]
    exact h3 i hi'
theorem RowI.at {w : World} {g : Nat} {xs : List Int} (h : RowI w g xs) (hl : (xs.length : Int) ≤ 17592186044416) : IntsAt w w.heap.size (some ⟨g, 0, none⟩) xs := by
  obtain ⟨cs, h1, h2, h3⟩ := h.ex
  exact ⟨hl, .inr ⟨g, 0, rfl, lt_of_block h1, fun i hi => by rw [cell_blk h1, Nat.zero_add]; exact h3 i hi⟩⟩

theorem cell_none {w : World} {b o : Nat} (h : w.heap.size ≤ b) : w.cell? ⟨b, o, none⟩ = none := by
  have h0 : w.heap[b]? = none := Array.getElem?_eq_none h
  simp only [World.cell?, h0]

/-- The numbers of the state behind an arc. -/
def behindN (objs : Nat) (L : List Nat) (p : Nat) (a : TA) : List Nat := if a.set then (L.set (objs + p) a.to.toNat).set a.setObject.toNat a.setTo.toNat else L.set (objs + p) a.to.toNat

section
variable {o : Oper} {a : Act} {w : World} {K : Act → World → Prop} {Q : Exit → Act → World → Prop} {d : Nat}
theorem lk_place {s r : Nat} {u v x : Value} (hd : o.dst = some d) (ho : o.op = .call { callee := .value (.func 97), args := #[.tmp s, .tmp r], argTypes := #[66, 3] }) (hs : a.tmps[s]? = some u) (hr : a.tmps[r]? = some v)
    (hc : Calls Tryd.prog 97 #[u, v] w fun e w' => e = .returned x ∧ Nu w w') (hK : ∀ w', Nu w w' → K ⟨a.tmps.setIfInBounds d x, a.defers⟩ w') : Oper.wp Tryd.prog o a w K Q := by
  have hes : a.eval (.tmp s) = u := by simp [Act.eval, hs]
  have her : a.eval (.tmp r) = v := by simp [Act.eval, hr]
  unfold Oper.wp execOp
  simp only [ho, hd]
  go_simp
  refine hc.mono ?_
  rintro e w' ⟨rfl, hm⟩
  exact hK w' hm
theorem lk_fieldT0 {s b f : Nat} (hd : o.dst = some d) (ho : o.op = .fieldAddr 76 (.tmp s) 0) (hs : a.tmps[s]? = some (.pointer (some ⟨b, f, none⟩))) (hK : ∀ w', Nu w w' → K ⟨a.tmps.setIfInBounds d (.pointer (some ⟨b, f, none⟩)), a.defers⟩ w') : Oper.wp Tryd.prog o a w K Q := by
  have he : a.eval (.tmp s) = .pointer (some ⟨b, f, none⟩) := by simp [Act.eval, hs]
  unfold Oper.wp execOp
  simp only [ho, he, hd]
  go_simp
  exact hK w (Mv.refl _ _)
theorem lk_idxR {s r g n i c : Nat} (hi : i < n) (hd : o.dst = some d) (ho : o.op = .indexAddr 22 (.tmp s) (.tmp r)) (hs : a.tmps[s]? = some (.slice (some ⟨g, 0, none⟩) n c)) (hr : a.tmps[r]? = some (.int .i64 (i : Int))) (hK : ∀ w', Nu w w' → K ⟨a.tmps.setIfInBounds d (.pointer (some ⟨g, i, none⟩)), a.defers⟩ w') : Oper.wp Tryd.prog o a w K Q := by
  have hes : a.eval (.tmp s) = .slice (some ⟨g, 0, none⟩) n c := by simp [Act.eval, hs]
  have her : a.eval (.tmp r) = .int .i64 (i : Int) := by simp [Act.eval, hr]
  have hi' : (i : Int) < (n : Int) := by omega
  unfold Oper.wp execOp
  simp only [ho, hd]
  go_simp
  exact hK w (Mv.refl _ _)
theorem lk_storeIn {s r b f : Nat} {u : Value} {n : Int} (hd : o.dst = none) (ho : o.op = .store 3 (.tmp s) (.tmp r)) (hs : a.tmps[s]? = some (.pointer (some ⟨b, f, none⟩))) (hr : a.tmps[r]? = some (.int .i64 n)) (h0 : w.cell? ⟨b, f, none⟩ = some u) (hz : w.frozen? ⟨b, f, none⟩ = false)
    (hK : K a (w.setCell ⟨b, f, none⟩ (.int .i64 n))) : Oper.wp Tryd.prog o a w K Q := by
  have hes : a.eval (.tmp s) = .pointer (some ⟨b, f, none⟩) := by simp [Act.eval, hs]
  have her : a.eval (.tmp r) = .int .i64 n := by simp [Act.eval, hr]
  unfold Oper.wp execOp
  simp only [ho, hd, hes, her]
  go_simp
  exact hK
end

def RBe (tg n tc tb ab aoff : Nat) (p : Nat) (q : Nat) (to : Int) : Nat → World → Value → Prop
  | 0, _, v => v = .slice (some ⟨tg, 0, none⟩) n tc
  | 1, _, v => v = .pointer (some ⟨tb, 0, none⟩)
  | 2, _, v => v = .int .i64 (p : Int)
  | 3, _, v => v = .int .i64 (q : Int)
  | 4, _, v => v = .pointer (some ⟨ab, aoff, none⟩)
  | 5, _, v => v = .pointer (some ⟨ab, aoff, none⟩)
  | 6, _, v => v = .pointer (some ⟨ab, aoff, none⟩)
  | 7, _, v => v = .int .i64 to
  | 8, _, v => v = .pointer (some ⟨tg, q, none⟩)
  | _, _, v => v = undef
theorem RBe.nu {tg n tc tb ab aoff p q : Nat} {to : Int} : ∀ (i : Nat) (w w' : World) (v : Value), Nu w w' → RBe tg n tc tb ab aoff p q to i w v → RBe tg n tc tb ab aoff p q to i w' v := by
  intro i w w' v hn h
  unfold RBe at h ⊢
  split <;> simp only at h <;> exact h

set_option maxHeartbeats 4000000 in
set_option maxRecDepth 40000 in
theorem behind_any (w : World) (F : Nat → Prop) (tb : Nat) (t : Thr) {ro : Option Addr} {rc : Nat} {fo : Option Addr} {fc : Nat} {po : Option Addr} {pc : Nat} {qo : Option Addr} {qc : Nat} {pxs : List PX} (h : TIs w F tb t ro rc fo fc po pc qo qc pxs) (hm : mayT t = true) (hF : ∀ b, F b → b < w.heap.size) (ao : Option Addr) (ac : Nat) (L : List Nat) (hL : L.length = t.init.length + t.procs.length) (hat : IntsAt w w.heap.size ao (ints L)) (hs : ∀ n ∈ L, n < 256) (p : Nat) (hp : p < t.procs.length) (ab aoff : Nat) (a : TA) (ha : TAAt w ab aoff a) (size : Int) (hta : taB size t.init.length a = true) (hsz : size ≤ 60) :
    Calls Tryd.prog 106 #[.pointer (some ⟨tb, 0, none⟩), .slice ao L.length ac, .int .i64 (p : Int), .pointer (some ⟨ab, aoff, none⟩)] w fun e w' => e = .returned (.string (txt (encs (behindN t.init.length L p a)))) ∧ Nu w w' := by
  have HTI := hid h
  have HM := hid hm
  have HF := hid hF
  have HS := hid hs
  have HA := hid ha
  obtain ⟨hi16, hp8, _⟩ := mayT_parts hm
  obtain ⟨_, hset, _, hto, _⟩ := taB_parts hta
  have HC := hid (CloneI_any w w.heap.size ao ac (ints L) hat)
  rw [ints_length] at HC
  have HSET := hid hset
  have HTO := hid hto
  have HLN := hid hL
  have HPP := hid hp
  have HSZ := hid hsz
  have HIP : Hid (t.init.length ≤ 16 ∧ t.procs.length ≤ 8) := ⟨hi16, hp8⟩
  clear h hm hF hs ha hat hset hto hL hp hsz hi16 hp8 hta
  go_enter Tryd.func106, Tryd.ntmps106
  go_wp2_with (go_at_call 42; refine HC.out.mono ?_; rintro e w1 ⟨hn1, to, tc, rfl, hown⟩; have HN1 := hid hn1; have HOW := hid hown; clear hn1 hown)
  have HQ : ∃ tg, to = some ⟨tg, 0, none⟩ ∧ w.heap.size ≤ tg ∧ RowI w1 tg (ints L) := by
    have h1 := HOW.out.len
    have h2 := HPP.out
    have h3 := HLN.out
    rw [ints_length] at h1
    rcases HOW.out.row with h0 | ⟨g, cs, e, hg, hb, hs, hc⟩
    · omega
    · exact ⟨g, e, hg, ⟨cs, hb, by have := HOW.out.len; omega, hc⟩⟩
  obtain ⟨tg, rfl, htg, hrow⟩ := HQ
  have HR1 := hid hrow
  have HTG := hid htg
  clear htg hrow HOW
  have HAB : Hid (ab < w.heap.size) := by
    refine Nat.lt_of_not_le fun hn => ?_
    have := HA.out.c0
    rw [cell_none hn] at this
    cases this
  have HQL : Hid (t.init.length + p < L.length) := by have h1 := HLN.out; have h2 := HPP.out; exact hid (by omega)
  rename_i KC hKC
  refine wp_lookS (RBe tg L.length tc tb ab aoff p (t.init.length + p) a.to) RBe.nu (by kernel_rfl) (by kernel_rfl) ?step ?last
  case step =>
    intro i o d a' w' ho hd hn hfr had K hK
    have hi : i < 10 := (Array.getElem?_eq_some_iff.1 ho).1
    have f0 := hfr 0 (by kernel_rfl)
    have f2 := hfr 2 (by kernel_rfl)
    have f3 := hfr 3 (by kernel_rfl)
    have f9 := hfr 9 (by kernel_rfl)
    have hnw := mv0 HN1.out hn
    have : i = 0 ∨ i = 1 ∨ i = 2 ∨ i = 3 ∨ i = 4 ∨ i = 5 ∨ i = 6 ∨ i = 7 ∨ i = 8 ∨ i = 9 := by omega
    rcases this with rfl | rfl | rfl | rfl | rfl | rfl | rfl | rfl | rfl | rfl <;> cases ho <;> cases hd
    · exact ite_yes (want_none rfl) (lk_move rfl rfl f9 (fun w' hm => hK w' _ hm rfl))
    · exact ite_yes (want_none rfl) (lk_move rfl rfl f0 (fun w' hm => hK w' _ hm rfl))
    · exact ite_yes (want_none rfl) (lk_move rfl rfl f2 (fun w' hm => hK w' _ hm rfl))
    · obtain ⟨⟨_, h1, rfl⟩, ⟨_, h2, rfl⟩, _⟩ := had
      exact ite_yes (want_none rfl) (lk_place rfl rfl h1 h2 (place_any w' F tb t (HTI.out.keep (hnw.keep (fun b hb => ⟨HF.out b hb, id⟩))) HM.out p HPP.out) (fun w' hm => hK w' _ hm rfl))
    · exact ite_yes (want_none rfl) (lk_move rfl rfl f3 (fun w' hm => hK w' _ hm rfl))
    · obtain ⟨⟨_, h0, rfl⟩, _⟩ := had; exact ite_yes (want_none rfl) (lk_nilP rfl rfl h0 (fun w' hm => hK w' _ hm rfl))
    · obtain ⟨⟨_, h0, rfl⟩, _⟩ := had; exact ite_yes (want_none rfl) (lk_fieldT0 rfl rfl h0 (fun w' hm => hK w' _ hm rfl))
    · obtain ⟨⟨_, h0, rfl⟩, _⟩ := had; exact ite_yes (want_none rfl) (lk_loadN rfl rfl h0 (cell_mv hnw HA.out.c0 id) (fun w' hm => hK w' _ hm rfl))
    · obtain ⟨⟨_, h0, rfl⟩, ⟨_, h3, rfl⟩, _⟩ := had; exact ite_yes (want_none rfl) (lk_idxR HQL.out rfl rfl h0 h3 (fun w' hm => hK w' _ hm rfl))
  case last =>
    intro o a' w2 ho hn2 hdf hsz hfr htv
    cases ho
    have htm := fill_eq (vals := fun i => ([.slice (some ⟨tg, 0, none⟩) L.length tc, .pointer (some ⟨tb, 0, none⟩), .int .i64 (p : Int), .int .i64 ((t.init.length + p : Nat) : Int), .pointer (some ⟨ab, aoff, none⟩), .pointer (some ⟨ab, aoff, none⟩), .pointer (some ⟨ab, aoff, none⟩), .int .i64 a.to, .pointer (some ⟨tg, t.init.length + p, none⟩)] : List Value).getD i undef) (by kernel_rfl) hfr (fun i p' d hi hd => by
      have hi' : i < 10 := (Array.getElem?_eq_some_iff.1 hi).1
      obtain ⟨v, h, hv⟩ := htv i p' d hi hd
      have : i = 0 ∨ i = 1 ∨ i = 2 ∨ i = 3 ∨ i = 4 ∨ i = 5 ∨ i = 6 ∨ i = 7 ∨ i = 8 ∨ i = 9 := by omega
      rcases this with rfl | rfl | rfl | rfl | rfl | rfl | rfl | rfl | rfl | rfl <;> cases hi <;> cases hd <;> exact h.trans (congrArg some hv))
    obtain ⟨_, t8, rfl⟩ := htv 8 _ 20 rfl rfl
    obtain ⟨_, t7, rfl⟩ := htv 7 _ 19 rfl rfl
    have hq : t.init.length + p < (ints L).length := by rw [ints_length]; exact HQL.out
    have hr2 := HR1.out.mv hn2 id
    refine lk_storeIn rfl rfl t8 t7 (hr2.cell hq).1 (hr2.cell hq).2 ?_
    refine hKC _ _ ?_
    have HR3 := hid (hr2.set hq a.to)
    have HM3 : Hid (Nu w (w2.setCell ⟨tg, t.init.length + p, none⟩ (.int .i64 a.to))) := hid ((mv0 HN1.out hn2).trans (Mv.setCell w2 ⟨tg, t.init.length + p, none⟩ _) (fun x hx => .inr (by have : x = tg := hx; have := HTG.out; omega)))
    rw [act_eq' htm hdf]
    clear htm hdf hn2 hsz hfr htv t7 t8 hq hr2 hKC HR1
    generalize w2.setCell ⟨tg, t.init.length + p, none⟩ (.int .i64 a.to) = w3 at *
    simp only [fill, List.getD_cons_succ, List.getD_cons_zero, List.setIfInBounds_toArray, List.set_cons_succ, List.set_cons_zero]
    have HL1 : Hid (RowI w3 tg (ints (L.set (t.init.length + p) a.to.toNat))) := by
      have h := HR3.out
      have e : (ints L).set (t.init.length + p) a.to = ints (L.set (t.init.length + p) a.to.toNat) := by
        have := Int.toNat_of_nonneg HTO.out.1
        rw [ints, ints, List.map_set, this]
      rw [e] at h
      exact hid h
    clear HR3
    have HS1 : Hid (∀ n ∈ L.set (t.init.length + p) a.to.toNat, n < 256) := hid (fun n hn => by
      rcases List.mem_or_eq_of_mem_set hn with h | h
      · exact HS.out n h
      · have := HTO.out; have := HSZ.out; omega)
    have HAA : Hid (TAAt w3 ab aoff a) := hid (HA.out.keep (HM3.out.keep (F := (· = ab)) (fun b hb => ⟨by have : b = ab := hb; have := HAB.out; omega, id⟩)) rfl)
    have HLL : Hid (L.length ≤ 1000) := by have h1 := HLN.out; have h2 := HIP.out; exact hid (by omega)
    have a4 := HAA.out.c4
    cases hset : a.set with
    | false =>
      rw [hset] at a4
      have HZ := hid hset
      clear hset
      have HB := hid (bytesOf_walk w3 w3.heap.size (some ⟨tg, 0, none⟩) tc (L.set (t.init.length + p) a.to.toNat) (HL1.out.at (by rw [ints_length, List.length_set]; have := HLL.out; omega)) (fun n hn => by have := HS1.out n hn; omega) (by rw [List.length_set]; exact HLL.out))
      rw [List.length_set] at HB
      go_wp2_with (go_at_call 93; refine HB.out.mono ?_; rintro e w4 ⟨rfl, hn4⟩)
      go_ret
      refine ⟨by rw [behindN, HZ.out]; rfl, mv0 HM3.out hn4⟩
    | true =>
      rw [hset] at a4
      obtain ⟨⟨hs0, hs1⟩, hs2, hs3⟩ := HSET.out hset
      have HZ := hid hset
      clear hset
      obtain ⟨so, hso⟩ : ∃ so : Nat, a.setObject = (so : Int) := ⟨a.setObject.toNat, by omega⟩
      obtain ⟨st, hst⟩ : ∃ st : Nat, a.setTo = (st : Int) := ⟨a.setTo.toNat, by omega⟩
      have a5 := HAA.out.c5
      have a6 := HAA.out.c6
      rw [hso] at a5
      rw [hst] at a6
      have hsl : so < L.length := by have h1 := HLN.out; omega
      have hsl' : so < (ints (L.set (t.init.length + p) a.to.toNat)).length := by rw [ints_length, List.length_set]; exact hsl
      have HSL := hid hsl'
      have b0 : (so : Int) < (L.length : Int) := by omega
      have HST : Hid (st < 256) := hid (by omega)
      obtain ⟨u0, c0⟩ : ∃ u : Int, w3.cell? ⟨tg, so, none⟩ = some (.int .i64 u) := ⟨_, (HL1.out.cell hsl').1⟩
      have z0 := (HL1.out.cell hsl').2
      have HR4 := hid (HL1.out.set hsl' (st : Int))
      have HEQ : Hid (a.setObject = (so : Int) ∧ a.setTo = (st : Int)) := hid ⟨hso, hst⟩
      clear hs0 hs1 hs2 hs3 hso hst hsl' hsl
      go_wp2
      go_region
      clear a4 a5 a6 c0 z0 b0
      have HM4 : Hid (Nu w (w3.setCell ⟨tg, so, none⟩ (.int .i64 (st : Int))).drew) := hid (mv0 (HM3.out.trans (Mv.setCell w3 ⟨tg, so, none⟩ _) (fun x hx => .inr (by have : x = tg := hx; have := HTG.out; omega))) (Mv.drew _ _))
      have HR5 : Hid (RowI (w3.setCell ⟨tg, so, none⟩ (.int .i64 (st : Int))).drew tg (ints ((L.set (t.init.length + p) a.to.toNat).set so st))) := by
        have h := HR4.out.mv (Mv.drew (fun _ => False) _) id
        have e : (ints (L.set (t.init.length + p) a.to.toNat)).set so (st : Int) = ints ((L.set (t.init.length + p) a.to.toNat).set so st) := by simp only [ints, List.map_set]
        rw [e] at h
        exact hid h
      clear HR4
      generalize (w3.setCell ⟨tg, so, none⟩ (.int .i64 (st : Int))).drew = w5 at *
      have HB := hid (bytesOf_walk w5 w5.heap.size (some ⟨tg, 0, none⟩) tc ((L.set (t.init.length + p) a.to.toNat).set so st) (HR5.out.at (by rw [ints_length, List.length_set, List.length_set]; have := HLL.out; omega)) (fun n hn => by
        rcases List.mem_or_eq_of_mem_set hn with h | h
        · have := HS1.out n h; omega
        · have := HST.out; omega) (by rw [List.length_set, List.length_set]; exact HLL.out))
      rw [List.length_set, List.length_set] at HB
      go_wp2_with (go_at_call 93; refine HB.out.mono ?_; rintro e w6 ⟨rfl, hn6⟩)
      go_ret
      refine ⟨by rw [behindN, HZ.out, HEQ.out.1, HEQ.out.2]; rfl, mv0 HM4.out hn6⟩

end Go.Proofs.YtiinmaedmkgfoaaDoor
/-
  The program's feetOf: its first region, which makes three rows.
-/
set_option linter.unusedVariables false
set_option linter.unusedSimpArgs false
namespace Go.Proofs.YtiinmaedmkgfoaaDoor
open Go.RowKit

theorem WrJ.drw {w w' : World} {g o n : Nat} {t : TypeId} {vs : List Value} (h : WrJ w.drew w' g o n t vs) : WrJ w w' g o n t vs := ⟨(Mv.drew _ w).trans h.mv (fun x hx => .inl hx), fun cs hc hl => h.blk cs ((Mv.drew (fun _ => False) w).heap hc id) hl⟩

def SlA (w : World) (H n : Nat) (v : Value) : Prop := ∃ g, v = .slice (some ⟨g, 0, none⟩) n n ∧ H ≤ g ∧ w.heap[g]? = some (.cells (List.replicate n (Value.slice none 0 0)).toArray 115 (0, 0))
def SlF (w : World) (H n : Nat) (v : Value) : Prop := ∃ g, v = .slice (some ⟨g, 0, none⟩) n n ∧ H ≤ g ∧ w.heap[g]? = some (.cells (ftflat (List.replicate n ft0)).toArray 145 (0, 0))
theorem SlA.nu {w w' : World} {H n : Nat} {v : Value} (h : SlA w H n v) (hn : Nu w w') : SlA w' H n v := by
  obtain ⟨g, h1, h2, h3⟩ := h
  exact ⟨g, h1, h2, hn.heap h3 id⟩
theorem SlF.nu {w w' : World} {H n : Nat} {v : Value} (h : SlF w H n v) (hn : Nu w w') : SlF w' H n v := by
  obtain ⟨g, h1, h2, h3⟩ := h
  exact ⟨g, h1, h2, hn.heap h3 id⟩

def RFe (ao : Option Addr) (n cap H : Nat) : Nat → World → Value → Prop
  | 0, _, v => v = .slice ao n cap
  | 1, _, v => v = .int .i64 (n : Int)
  | 2, w, v => SlA w H n v
  | 3, _, v => v = .slice ao n cap
  | 4, _, v => v = .int .i64 (n : Int)
  | 5, w, v => SlF w H n v
  | 6, _, v => v = .slice ao n cap
  | 7, _, v => v = .int .i64 (n : Int)
  | 8, w, v => SlF w H n v
  | 9, w, v => ∃ x y z, v = .agg #[x, y, z] ∧ SlA w H n x ∧ SlF w H n y ∧ SlF w H n z ∧ y.ownBlock ≠ z.ownBlock
  | 10, w, v => ∃ ob, v = .pointer (some ⟨ob, 0, none⟩) ∧ H ≤ ob ∧ w.heap[ob]? = some (.cells #[.slice none 0 0, .slice none 0 0, .slice none 0 0] 117 (0, 0))
  | _, _, v => v = undef
theorem RFe.nu {ao : Option Addr} {n cap H : Nat} : ∀ (i : Nat) (w w' : World) (v : Value), Nu w w' → RFe ao n cap H i w v → RFe ao n cap H i w' v := by
  intro i w w' v hn h
  unfold RFe at h ⊢
  split <;> simp only at h <;> first
    | exact h
    | exact SlA.nu h hn
    | exact SlF.nu h hn
    | (obtain ⟨x, y, z, h1, h2, h3, h4, h5⟩ := h; exact ⟨x, y, z, h1, h2.nu hn, h3.nu hn, h4.nu hn, h5⟩)
    | (obtain ⟨ob, h1, h2, h3⟩ := h; exact ⟨ob, h1, h2, hn.heap h3 id⟩)

/-- Two rows that are made lie apart. -/
def EFe (s5 s8 : Nat) (l : Array Bool) (a : Act) (_ : World) : Prop := ∀ v u, l.getD 5 false = true → l.getD 8 false = true → a.tmps[s5]? = some v → a.tmps[s8]? = some u → v.ownBlock ≠ u.ownBlock
theorem getD_setN {l : Array Bool} {i j : Nat} (h : j ≠ i) : (l.setIfInBounds i true).getD j false = l.getD j false := by
  rw [Array.getD_eq_getD_getElem?, Array.getElem?_setIfInBounds_ne (fun e => h e.symm), ← Array.getD_eq_getD_getElem?]
theorem EFe.other {s5 s8 : Nat} {l : Array Bool} {a : Act} {w w' : World} {i d : Nat} {v : Value} (h : EFe s5 s8 l a w) (h5 : 5 ≠ i) (h8 : 8 ≠ i) (hd5 : d ≠ s5) (hd8 : d ≠ s8) : EFe s5 s8 (l.setIfInBounds i true) ⟨a.tmps.setIfInBounds d v, a.defers⟩ w' := by
  intro x y g5 g8 hx hy
  rw [getD_setN h5] at g5
  rw [getD_setN h8] at g8
  rw [Array.getElem?_setIfInBounds_ne hd5] at hx
  rw [Array.getElem?_setIfInBounds_ne hd8] at hy
  exact h x y g5 g8 hx hy
theorem set_in {t : Array Value} {d : Nat} {v x : Value} (h : (t.setIfInBounds d v)[d]? = some x) : x = v := by
  rw [Array.getElem?_setIfInBounds_self] at h
  split at h
  · simpa using h.symm
  · cases h

section
variable {o : Oper} {a : Act} {w : World} {K : Act → World → Prop} {Q : Exit → Act → World → Prop} {d : Nat}
theorem lk_lenTN {s : Nat} {ao : Option Addr} {l c : Nat} (hd : o.dst = some d) (ho : o.op = .call { callee := .builtin .len, args := #[.tmp s], argTypes := #[71] }) (hs : a.tmps[s]? = some (.slice ao l c)) (hK : ∀ w', Nu w w' → K ⟨a.tmps.setIfInBounds d (.int .i64 (l : Int)), a.defers⟩ w') : Oper.wp Tryd.prog o a w K Q := by
  have hes : a.eval (.tmp s) = .slice ao l c := by simp [Act.eval, hs]
  unfold Oper.wp execOp
  simp only [ho, hd]
  go_simp
  exact hK w (Mv.refl _ _)
theorem lk_makeA {s n : Nat} (hn : n ≤ 60) (hd : o.dst = some d) (ho : o.op = .makeSlice 114 (.tmp s) (.tmp s)) (hs : a.tmps[s]? = some (.int .i64 (n : Int)))
    (hK : ∀ w', Nu w w' → SlA w' w.heap.size n (.slice (some ⟨w.heap.size, 0, none⟩) n n) → K ⟨a.tmps.setIfInBounds d (.slice (some ⟨w.heap.size, 0, none⟩) n n), a.defers⟩ w') : Oper.wp Tryd.prog o a w K Q := by
  have hes : a.eval (.tmp s) = .int .i64 (n : Int) := by simp [Act.eval, hs]
  obtain ⟨i0, hi, hz0, hz1, hz2⟩ := info_parts c_infoFts
  have hm : (Instr.makeSlice 114 (.int .i64 (n : Int)) (.int .i64 (n : Int))).run Tryd.prog w = .ok (.slice (some ⟨w.heap.size, 0, none⟩) n n) (w.alloc (.cells (List.replicate n (Value.slice none 0 0)).toArray 115)) := by
    have := run_make (P := Tryd.prog) w 114 115 i0 (.slice none 0 0) Tryd.underlying114 hi hz0 .i64 .i64 (n : Int) (n : Int) (by omega) (Int.le_refl _) (by rw [hz2]; omega) (by omega)
    rw [this, hz1, Int.toNat_natCast, made_slices]
  unfold Oper.wp execOp
  simp only [ho, hd]
  go_simp
  exact hK _ (Mv.alloc _ _ _) ⟨_, rfl, Nat.le_refl _, heap_alloc_new _ _⟩
theorem lk_makeF {s n : Nat} (hn : n ≤ 60) (hd : o.dst = some d) (ho : o.op = .makeSlice 115 (.tmp s) (.tmp s)) (hs : a.tmps[s]? = some (.int .i64 (n : Int)))
    (hK : ∀ w', Nu w w' → SlF w' w.heap.size n (.slice (some ⟨w.heap.size, 0, none⟩) n n) → K ⟨a.tmps.setIfInBounds d (.slice (some ⟨w.heap.size, 0, none⟩) n n), a.defers⟩ w') : Oper.wp Tryd.prog o a w K Q := by
  have hes : a.eval (.tmp s) = .int .i64 (n : Int) := by simp [Act.eval, hs]
  obtain ⟨i0, hi, hz0, hz1, hz2⟩ := info_parts c_infoFt
  have hm : (Instr.makeSlice 115 (.int .i64 (n : Int)) (.int .i64 (n : Int))).run Tryd.prog w = .ok (.slice (some ⟨w.heap.size, 0, none⟩) n n) (w.alloc (.cells (ftflat (List.replicate n ft0)).toArray 145)) := by
    have := run_make (P := Tryd.prog) w 115 145 i0 (.agg #[.int .u64 0, .int .u64 0, .int .u64 0]) Tryd.underlying115 hi hz0 .i64 .i64 (n : Int) (n : Int) (by omega) (Int.le_refl _) (by rw [hz2]; omega) (by omega)
    rw [this, hz1, Int.toNat_natCast, made_feet]
  unfold Oper.wp execOp
  simp only [ho, hd]
  go_simp
  exact hK _ (Mv.alloc _ _ _) ⟨_, rfl, Nat.le_refl _, heap_alloc_new _ _⟩
theorem lk_buildFe {s0 s1 s2 : Nat} {v0 v1 v2 : Value} (h0' : ∃ a b c, v0 = .slice a b c) (h1' : ∃ a b c, v1 = .slice a b c) (h2' : ∃ a b c, v2 = .slice a b c) (hd : o.dst = some d) (ho : o.op = .build 117 #[(0, .tmp s0), (1, .tmp s1), (2, .tmp s2)]) (h0 : a.tmps[s0]? = some v0) (h1 : a.tmps[s1]? = some v1) (h2 : a.tmps[s2]? = some v2)
    (hK : ∀ w', Nu w w' → K ⟨a.tmps.setIfInBounds d (.agg #[v0, v1, v2]), a.defers⟩ w') : Oper.wp Tryd.prog o a w K Q := by
  obtain ⟨x0, y0, z0, rfl⟩ := h0'
  obtain ⟨x1, y1, z1, rfl⟩ := h1'
  obtain ⟨x2, y2, z2, rfl⟩ := h2'
  have e0 : a.eval (.tmp s0) = .slice x0 y0 z0 := by simp [Act.eval, h0]
  have e1 : a.eval (.tmp s1) = .slice x1 y1 z1 := by simp [Act.eval, h1]
  have e2 : a.eval (.tmp s2) = .slice x2 y2 z2 := by simp [Act.eval, h2]
  unfold Oper.wp execOp
  simp only [ho, hd]
  go_simp
  exact hK w (Mv.refl _ _)
theorem lk_allocFe (hd : o.dst = some d) (ho : o.op = .alloc 117) (hK : K ⟨a.tmps.setIfInBounds d (.pointer (some ⟨w.heap.size, 0, none⟩)), a.defers⟩ (w.alloc (.cells #[.slice none 0 0, .slice none 0 0, .slice none 0 0] 117))) : Oper.wp Tryd.prog o a w K Q := by
  unfold Oper.wp execOp
  simp only [ho, hd]
  go_simp
  exact hK
theorem lk_storeFe {s r nb : Nat} {z0 z1 z2 : Value} {ra wa xa : Option Addr} {rn rc wn wc xn xc : Nat} (hd : o.dst = none) (ho : o.op = .store 117 (.tmp s) (.tmp r)) (hs : a.tmps[s]? = some (.pointer (some ⟨nb, 0, none⟩))) (hr : a.tmps[r]? = some (.agg #[.slice ra rn rc, .slice wa wn wc, .slice xa xn xc])) (hb : w.heap[nb]? = some (.cells #[z0, z1, z2] 117 (0, 0)))
    (hK : ∀ w', w'.heap[nb]? = some (.cells #[.slice ra rn rc, .slice wa wn wc, .slice xa xn xc] 117 (0, 0)) → Mv (· = nb) w w' → K a w') : Oper.wp Tryd.prog o a w K Q := by
  have hes : a.eval (.tmp s) = .pointer (some ⟨nb, 0, none⟩) := by simp [Act.eval, hs]
  have her : a.eval (.tmp r) = .agg #[.slice ra rn rc, .slice wa wn wc, .slice xa xn xc] := by simp [Act.eval, hr]
  obtain ⟨d0, d1, d2⟩ := cells3 hb
  have f0 := free_blk hb 0
  have f1 := free_blk hb 1
  have f2 := free_blk hb 2
  unfold Oper.wp execOp
  simp only [ho, hd, hes, her]
  go_simp
  obtain ⟨h1, h2⟩ := set3 (v0 := .slice ra rn rc) (v1 := .slice wa wn wc) (v2 := .slice xa xn xc) hb
  exact hK _ h1 h2
end
theorem SlA.sl {w : World} {H n : Nat} {v : Value} (h : SlA w H n v) : ∃ a b c, v = .slice a b c := by obtain ⟨g, h1, _⟩ := h; exact ⟨_, _, _, h1⟩
theorem SlF.sl {w : World} {H n : Nat} {v : Value} (h : SlF w H n v) : ∃ a b c, v = .slice a b c := by obtain ⟨g, h1, _⟩ := h; exact ⟨_, _, _, h1⟩
theorem SlA.low {w : World} {H H' n : Nat} {v : Value} (h : SlA w H n v) (hl : H' ≤ H) : SlA w H' n v := by obtain ⟨g, h1, h2, h3⟩ := h; exact ⟨g, h1, by omega, h3⟩
theorem SlF.low {w : World} {H H' n : Nat} {v : Value} (h : SlF w H n v) (hl : H' ≤ H) : SlF w H' n v := by obtain ⟨g, h1, h2, h3⟩ := h; exact ⟨g, h1, by omega, h3⟩

end Go.Proofs.YtiinmaedmkgfoaaDoor
