/-
  VTab, QC, QW, QKnown0, QKnown, QAround0, QAround.
-/
import Derived.Laws.Rows
import Derived.Test.YtidihaecgmbhpabDoorM1
import Derived.Test.YtidihaecgmbhpabDoorM9
/-
  The program's own tables: what they hold, and how they are read.
-/
set_option linter.unusedSimpArgs false
namespace Go.Proofs.YtidihaecgmbhpabDoor
open Go.RowKit Q

/-- Signs and their kinds, in the program's order. -/
def sgnT : List (Wd × Int) := [([91, 93], 6), ([60, 62], 7), ([60, 45, 62], 11), ([45, 62], 10), ([33], 4), ([38, 38], 8), ([47, 92], 8), ([124, 124], 9), ([92, 47], 9), ([40], -1), ([41], -2)]
/-- Rows of letters that are no names, and their kinds. -/
def resT : List (Wd × Int) := [([116, 114, 117, 101], 1), ([102, 97, 108, 115, 101], 2), ([88], 5), ([85], 12), ([86], 13), ([87], 14), ([97, 108, 119, 97, 121, 115], 6), ([101, 118, 101, 110, 116, 117, 97, 108, 108, 121], 7), ([110, 101, 120, 116], 5), ([117, 110, 116, 105, 108], 12), ([114, 101, 108, 101, 97, 115, 101], 13), ([119, 101, 97, 107, 117, 110, 116, 105, 108], 14)]
/-- Kinds: text, kids, level, left, right. -/
def shpT : List (Wd × Int × Int × Int × Int) := [([], 0, 0, 0, 0), ([116, 114, 117, 101], 0, 6, 0, 0), ([102, 97, 108, 115, 101], 0, 6, 0, 0), ([], 0, 6, 0, 0), ([33], 1, 5, 0, 5), ([88, 32], 1, 5, 0, 5), ([91, 93, 32], 1, 5, 0, 5), ([60, 62, 32], 1, 5, 0, 5),
  ([32, 38, 38, 32], 2, 3, 3, 4), ([32, 124, 124, 32], 2, 2, 2, 3), ([32, 45, 62, 32], 2, 1, 2, 1), ([32, 60, 45, 62, 32], 2, 0, 1, 0), ([32, 85, 32], 2, 4, 5, 4), ([32, 86, 32], 2, 4, 5, 4), ([32, 87, 32], 2, 4, 5, 4)]

def spellC (L : List (Wd × Int)) : Array Value := (L.flatMap fun x => [Value.string (strOfL x.1), .int .i64 x.2]).toArray
def shapeC : Array Value := (shpT.flatMap fun x => [Value.string (strOfL x.1), .int .i64 x.2.1, .int .i64 x.2.2.1, .int .i64 x.2.2.2.1, .int .i64 x.2.2.2.2]).toArray

/-- The tables lie as the program lays them. -/
structure Gl (w : World) : Prop where
  shp : w.heap[0]? = some (.cells shapeC 85 (0, 0))
  sgn : w.heap[1]? = some (.cells (spellC sgnT) 110 (0, 0))
  res : w.heap[2]? = some (.cells (spellC resT) 125 (0, 0))

theorem Gl.nu {w w' : World} (h : Gl w) (hm : Nu w w') : Gl w' := ⟨hm.heap h.shp id, hm.heap h.sgn id, hm.heap h.res id⟩
theorem Gl.mv {S : Nat → Prop} {w w' : World} (h : Gl w) (hm : Mv S w w') (hS : ∀ x, S x → 3 ≤ x) : Gl w' :=
  ⟨hm.heap h.shp fun e => by have := hS _ e; omega, hm.heap h.sgn fun e => by have := hS _ e; omega, hm.heap h.res fun e => by have := hS _ e; omega⟩

theorem load_res {w : World} (h : Gl w) : (Instr.loadAt 125 (.pointer (some ⟨2, 0, none⟩))).run Tryd.prog w = .ok (.agg (spellC resT)) w := by
  simp only [Instr.loadAt, Instr.sureAddr, Sem.run_bind, Sem.run_pure, Result.andThen_ok]
  exact run_loadVar_row w _ _ _ _ _ _ h.res Tryd.underlying125 rfl (by kernel_rfl)
theorem load_sgn {w : World} (h : Gl w) : (Instr.loadAt 110 (.pointer (some ⟨1, 0, none⟩))).run Tryd.prog w = .ok (.agg (spellC sgnT)) w := by
  simp only [Instr.loadAt, Instr.sureAddr, Sem.run_bind, Sem.run_pure, Result.andThen_ok]
  exact run_loadVar_row w _ _ _ _ _ _ h.sgn Tryd.underlying110 rfl (by kernel_rfl)

theorem index_res (w : World) : ∀ (i : Nat) x, resT[i]? = some x → (Instr.index 125 (.agg (spellC resT)) (.int .i64 (i : Int))).run Tryd.prog w = .ok (.agg #[.string (strOfL x.1), .int .i64 x.2]) w := by
  intro i x hx
  have hi : i < 12 := (List.getElem?_eq_some_iff.1 hx).1
  rcases i with _ | _ | _ | _ | _ | _ | _ | _ | _ | _ | _ | _ | i
  all_goals (try (exfalso; omega))
  all_goals (cases hx; show Sem.run _ _ _ = _; kernel_rfl)
theorem index_sgn (w : World) : ∀ (i : Nat) x, sgnT[i]? = some x → (Instr.index 110 (.agg (spellC sgnT)) (.int .i64 (i : Int))).run Tryd.prog w = .ok (.agg #[.string (strOfL x.1), .int .i64 x.2]) w := by
  intro i x hx
  have hi : i < 11 := (List.getElem?_eq_some_iff.1 hx).1
  rcases i with _ | _ | _ | _ | _ | _ | _ | _ | _ | _ | _ | i
  all_goals (try (exfalso; omega))
  all_goals (cases hx; show Sem.run _ _ _ = _; kernel_rfl)

/-- The kind of a row of letters. -/
def wkind (s : Wd) : Int := match resT.find? (fun x => x.1 == s) with
  | some x => x.2
  | none => 3

theorem find_at {α : Type} {q : α → Bool} : ∀ {l : List α} {i : Nat} {x : α}, l[i]? = some x → q x = true → (∀ (j : Nat) y, j < i → l[j]? = some y → q y = false) → l.find? q = some x
  | [], i, x, h, _, _ => by simp at h
  | a :: l, 0, x, h, hq, _ => by simp at h; subst h; simp [List.find?, hq]
  | a :: l, i + 1, x, h, hq, hn => by
    have h0 := hn 0 a (by omega) rfl
    rw [List.find?_cons, h0]
    exact find_at (by simpa using h) hq (fun j y hj hy => hn (j + 1) y (by omega) (by simpa using hy))
theorem find_no {α : Type} {q : α → Bool} {l : List α} (h : ∀ (j : Nat) y, l[j]? = some y → q y = false) : l.find? q = none := by
  rw [List.find?_eq_none]
  intro x hx
  obtain ⟨j, hj, rfl⟩ := List.getElem_of_mem hx
  simp [h j _ (List.getElem?_eq_getElem hj)]

set_option maxHeartbeats 2000000 in
theorem wordKind_any (s : Wd) (w : World) (hG : Gl w) : Looks 57 #[.string (strOfL s)] w (.int .i64 (wkind s)) := by
  have hR := hG.res
  have hz : (Tryd.prog.info? 125).map (·.size) = some (spellC resT).size := by kernel_rfl
  have hI := index_res
  have HW : Hid (∀ (i : Nat) (x : Wd × Int), resT[i]? = some x → x.1 = s → (∀ (j : Nat) y, j < i → resT[j]? = some y → y.1 ≠ s) → wkind s = x.2) := fun i x hx h1 h2 => by
    unfold wkind
    rw [find_at hx (by simp [h1]) (fun j y hj hy => by simpa using h2 j y hj hy)]
  have HN : Hid ((∀ (j : Nat) (y : Wd × Int), resT[j]? = some y → y.1 ≠ s) → wkind s = 3) := fun h => by
    unfold wkind
    rw [find_no (fun j y hy => by simpa using h j y hy)]
  generalize spellC resT = C at hR hI hz
  have HI := hid hI
  have HR := hid hR
  have HZ := hid hz
  clear hI hR hz hG
  unfold Looks
  go_enter Tryd.func57, Tryd.ntmps57
  go_wp2_with (refine wpList_load_row rfl _ _ rfl _ rfl _ _ _ _ HR.out Tryd.underlying125 rfl HZ.out ?_)
  go_loopw [6] (fun iv wr => ∃ i : Nat, i ≤ 12 ∧ iv = .int .i64 (i : Int) ∧ Hid (Nu w wr) ∧ Hid (∀ (j : Nat) (y : Wd × Int), j < i → resT[j]? = some y → y.1 ≠ s)) (fun iv _ => 12 - (intOf iv).toNat)
  case atStart => exact ⟨0, Nat.zero_le _, rfl, Mv.refl _ _, fun j t hj => absurd hj (Nat.not_lt_zero _)⟩
  case round =>
    obtain ⟨i, hi, rfl, HM, HF⟩ := hrel
    by_cases hj : i < 12
    · have hj' : (i : Int) < 12 := by omega
      obtain ⟨x, hx⟩ : ∃ x, resT[i]? = some x := ⟨_, List.getElem?_eq_getElem (by exact hj)⟩
      have hIx := HI.out wr i x hx
      have HX := hid hx
      obtain ⟨x1, x2⟩ := x
      clear hx
      by_cases he : x1 = s
      · subst he
        have HE := hid (HW.out i _ HX.out rfl HF.out)
        go_wp2_with fail
        go_ret
        exact ⟨ret_i64 HE.out.symm, mv0 HM.out (mv0 (Mv.alloc _ _ _) (Mv.refl _ _))⟩
      · have he' : ((strOfL x1).toList == (strOfL s).toList) = false := by rw [strOfL_toList, strOfL_toList]; simpa using he
        have HF1 : Hid (∀ (j : Nat) (y : Wd × Int), j < i + 1 → resT[j]? = some y → y.1 ≠ s) := fun j y h1 h2 => by
          by_cases hji : j = i
          · subst hji
            rw [HX.out] at h2
            cases h2
            exact he
          · exact HF.out j y (by omega) h2
        clear he
        go_wp2_with fail
        go_roundw
        case rel => exact ⟨i + 1, hj, by go_num, mv0 HM.out (Mv.alloc _ _ _), HF1⟩
        case measure => simp [intOf]; omega
    · have hj' : ¬ (i : Int) < 12 := by omega
      have HE : Hid (wkind s = 3) := HN.out (fun j y hy => HF.out j y (by have := (List.getElem?_eq_some_iff.1 hy).1; have h12 : resT.length = 12 := rfl; omega) hy)
      go_wp2_with fail
      go_ret
      exact ⟨ret_i64 HE.out.symm, HM.out⟩

end Go.Proofs.YtidihaecgmbhpabDoor
/-
  What the program's own functions of layer 9 are asked to give: the contracts that the statements' walks stand on. Nothing of the program's text but the functions' numbers.
-/
set_option linter.unusedSimpArgs false
namespace Go.Proofs.YtidihaecgmbhpabDoor
open Go.RowKit Q

/-- A tree's formula, if it may be. -/
noncomputable def fOf (t : T) : F := if h : t.may = true then Classical.choose (T.may_f t h) else .tt
theorem fOf_ok {t : T} (h : t.may = true) : (fOf t).ok = true ∧ (fOf t).t = t := by
  unfold fOf
  rw [dif_pos h]
  exact Classical.choose_spec (T.may_f t h)
theorem fOf_t {f : F} (h : f.ok = true) : fOf f.t = f := F.t_inj _ _ (fOf_ok (f.may_t h)).2

/-- What is read of a text: the tree, what is wrong and where. -/
def pt (s : Wd) : T := match parse s with | .ok f => f.t | .error _ => .mk 0 [] []
def pc (s : Wd) : Nat × Nat := match parse s with | .ok _ => (0, 0) | .error x => x

/-- A tree's text, and what is wrong. -/
noncomputable def prn (t : T) : Wd × Nat := if t.may = true then printF (fOf t) else ([], 92)
theorem prn_f {f : F} (h : f.ok = true) : prn f.t = printF f := by unfold prn; rw [if_pos (f.may_t h), fOf_t h]

/-- A tree's normal form, and what is wrong. -/
noncomputable def nrmE (t : T) : Nat := if chk t ≠ 0 then chk t else if 20000 < cnt true (fOf t) then 2 else 0
noncomputable def nrmT (t : T) : T := if nrmE t = 0 then (col true (fOf t)).t else .mk 0 [] []

/-- A tree that is its owner's: in new blocks, to be written to the bottom. -/
def Ows (w w' : World) (v : Value) (t : T) : Prop := ∃ d0 d1 d2 m, v = .agg #[d0, d1, d2] ∧ TIn w' (fun b => w.heap.size ≤ b) d0 d1 d2 t ∧ Sp w' (fun b => w.heap.size ≤ b) m d2

/-- What a formula may be rewritten as. -/
def Rw (t : T) (e : Nat) (u : T) : Prop := (nrmE t ≠ 0 ∧ e = nrmE t ∧ u = .mk 0 [] []) ∨ (nrmE t = 0 ∧ e = 0 ∧ (u.may && plainT u) = true ∧ u.size ≤ (nrmT t).size ∧ (∀ n, n ∈ nm u → n ∈ nm (nrmT t)) ∧ ((nrmT t).hasNext = false → u.hasNext = false))

/-- The program's tables lie where they were laid. -/
def G3 (w : World) : Prop := Gl w ∧ 3 ≤ w.heap.size
theorem G3.nu {w w' : World} (h : G3 w) (hm : Nu w w') : G3 w' := ⟨h.1.nu hm, Nat.le_trans h.2 hm.size⟩

/-- The contracts. -/
structure Cons : Prop where
  parse : ∀ (s : Wd), s.length ≤ 140737488355328 → ∀ w, G3 w → Calls Tryd.prog 13 #[.string (strOfL s)] w fun e w' => Nu w w' ∧ ∃ v, e = .returned (.tuple #[v, .agg #[.int .i64 ((pc s).1 : Int), .int .i64 ((pc s).2 : Int)]]) ∧ Ows w w' v (pt s)
  print : ∀ t : T, t.size ≤ 1000000 → ∀ w, G3 w → ∀ c0 c1 c2, TAt w c0 c1 c2 t → Looks 16 #[.agg #[c0, c1, c2]] w (.tuple #[.string (strOfL (prn t).1), .int .i64 ((prn t).2 : Int)])
  check : ∀ t : T, t.size ≤ 1000000 → ∀ w, G3 w → ∀ c0 c1 c2, TAt w c0 c1 c2 t → Looks 19 #[.agg #[c0, c1, c2]] w (.int .i64 (chk t : Int))
  name : ∀ (s : Wd), s.length ≤ 140737488355328 → ∀ w, G3 w → Looks 40 #[.string (strOfL s)] w (.bool (isName s))
  names : ∀ t : T, t.size ≤ 1000000 → ∀ w, G3 w → ∀ c0 c1 c2, TAt w c0 c1 c2 t → Calls Tryd.prog 17 #[.agg #[c0, c1, c2]] w fun e w' => Nu w w' ∧ ∃ v, e = .returned v ∧ RowAt w' v (srt (nm t))
  size : ∀ t : T, t.size ≤ 1000000 → ∀ w, G3 w → ∀ c0 c1 c2, TAt w c0 c1 c2 t → Looks 18 #[.agg #[c0, c1, c2]] w (.int .i64 (capN t.size : Int))
  same : ∀ t u : T, t.size ≤ 1000000 → u.size ≤ 1000000 → ∀ w, G3 w → ∀ c0 c1 c2 d0 d1 d2, TAt w c0 c1 c2 t → TAt w d0 d1 d2 u → Looks 10 #[.agg #[c0, c1, c2], .agg #[d0, d1, d2]] w (.bool (t.same u))
  normal : ∀ t : T, t.size ≤ 1000000 → ∀ w, G3 w → ∀ c0 c1 c2, TAt w c0 c1 c2 t → Calls Tryd.prog 9 #[.agg #[c0, c1, c2]] w fun e w' => Nu w w' ∧ ∃ v, e = .returned (.tuple #[v, .int .i64 (nrmE t : Int)]) ∧ Ows w w' v (nrmT t)
  plain : ∀ t : T, t.size ≤ 1000000 → ∀ w, G3 w → ∀ c0 c1 c2, TAt w c0 c1 c2 t → Looks 12 #[.agg #[c0, c1, c2]] w (.bool (t.may && plainT t))
  -- no such function here
  -- no such function here

end Go.Proofs.YtidihaecgmbhpabDoor
/-
  What follows of what is read, printed and brought to a normal form. Plain laws over the contracts' words.
-/
namespace Go.Proofs.YtidihaecgmbhpabDoor
open Go.RowKit Q

theorem tks_at : ∀ (f p : Nat) (s : Wd) (q : Nat), tks f p s = .error q → q ≤ p + s.length
  | 0, _, _, q, h => by simp [tks] at h
  | _ + 1, _, [], q, h => by simp [tks] at h
  | f + 1, p, c :: r, q, h => by
    rw [tks] at h
    split at h
    · have := tks_at f _ r q h
      simp only [List.length_cons]
      omega
    · split at h
      · injection h with h; omega
      · rename_i w hw
        split at h
        · cases h
        · rename_i e he
          injection h with h
          subst h
          have hle := (one_pre hw).1.length_le
          have := tks_at f _ _ _ he
          rw [List.length_drop] at this
          omega
theorem tokens_at {s : Wd} {q : Nat} (h : tokens s = .error q) : q ≤ s.length := by
  have := tks_at _ _ _ _ h
  omega

/-- What is wrong has a number, and a place in the text. -/
theorem parse_bad {s : Wd} {c p : Nat} (h : parse s = .error (c, p)) : c ≠ 0 ∧ c ≤ 93 ∧ p ≤ s.length := by
  unfold parse at h
  by_cases h1 : 4096 < s.length
  · rw [if_pos h1] at h
    injection h with h; injection h with h2 h3
    omega
  rw [if_neg h1] at h
  cases ht : tokens s with
  | error q =>
    rw [ht] at h
    injection h with h; injection h with h2 h3
    exact ⟨by omega, by omega, by rw [← h3]; exact tokens_at ht⟩
  | ok l =>
    rw [ht] at h
    obtain ⟨hl, hw⟩ := tokens_len ht
    have hat : ∀ k : Nat, ((l.map (·.2))[k]?.getD 0) ≤ s.length := by
      intro k
      cases hk : (l.map (·.2))[k]? with
      | none => simp
      | some y =>
        rw [List.getElem?_map] at hk
        cases hx : l[k]? with
        | none => rw [hx] at hk; simp at hk
        | some x =>
          rw [hx] at hk
          simp only [Option.map_some, Option.some.injEq] at hk
          subst hk
          exact (hw x (List.mem_of_getElem? hx)).2
    simp only at h
    have hf := fuel0 (l.map (·.1))
    rw [List.length_map] at hf
    cases hm : fm (8 * l.length + 8) 0 (l.map (·.1)) with
    | none => exact absurd hm hf
    | some y =>
      rw [hm] at h
      cases y with
      | error e =>
        simp only at h
        by_cases he : e = 0
        · rw [if_pos he] at h
          injection h with h; injection h with h2 h3
          omega
        · rw [if_neg he] at h
          injection h with h; injection h with h2 h3
          exact ⟨by omega, by omega, by rw [← h3]; exact hat _⟩
      | ok tr =>
        obtain ⟨t, r⟩ := tr
        simp only at h
        by_cases hr : r.length = 0
        · rw [if_pos hr] at h
          by_cases hd : 100 < t.depth
          · rw [if_pos hd] at h
            injection h with h; injection h with h2 h3
            omega
          · rw [if_neg hd] at h
            cases h
        · rw [if_neg hr] at h
          injection h with h; injection h with h2 h3
          exact ⟨by omega, by omega, by rw [← h3]; exact hat _⟩

/-- A text that is read, or not. -/
theorem pc_cases (s : Wd) : (∃ f, parse s = .ok f ∧ pc s = (0, 0) ∧ pt s = f.t ∧ f.ok = true ∧ f.depth ≤ 100 ∧ s.length ≤ 4096) ∨ ((pc s).1 ≠ 0 ∧ (pc s).1 ≤ 93 ∧ (pc s).2 ≤ s.length ∧ pt s = .mk 0 [] []) := by
  cases h : parse s with
  | ok f =>
    obtain ⟨h1, h2, h3, _⟩ := of_parse h
    exact .inl ⟨f, rfl, by unfold pc; rw [h], by unfold pt; rw [h], h3, h2, h1⟩
  | error x =>
    obtain ⟨c, p⟩ := x
    obtain ⟨h1, h3, h2⟩ := parse_bad h
    exact .inr ⟨by unfold pc; rw [h]; exact h1, by unfold pc; rw [h]; exact h3, by unfold pc; rw [h]; exact h2, by unfold pt; rw [h]⟩

theorem pc_ok {s : Wd} {f : F} (h : parse s = .ok f) : pc s = (0, 0) ∧ pt s = f.t := ⟨by unfold pc; rw [h], by unfold pt; rw [h]⟩

/-- What is read has few parts. -/
theorem pt_size (s : Wd) : (pt s).size ≤ 5000 := by
  rcases pc_cases s with ⟨f, h, _, h2, _, _, _⟩ | ⟨_, _, _, h2⟩
  · rw [h2, f.size_t]
    unfold parse at h
    by_cases h1 : 4096 < s.length
    · rw [if_pos h1] at h; cases h
    rw [if_neg h1] at h
    cases ht : tokens s with
    | error q => rw [ht] at h; cases h
    | ok l =>
      rw [ht] at h
      obtain ⟨hl, hw⟩ := tokens_len ht
      simp only at h
      cases hm : fm (8 * l.length + 8) 0 (l.map (·.1)) with
      | none => rw [hm] at h; cases h
      | some y =>
        rw [hm] at h
        cases y with
        | error e => simp only at h; split at h <;> cases h
        | ok tr =>
          obtain ⟨t, r⟩ := tr
          simp only at h
          have hsl := (size_le _).1 _ _ _ _ hm
          rw [List.length_map] at hsl
          split at h
          · split at h
            · cases h
            · injection h with h
              subst h
              omega
          · cases h
  · rw [h2]; simp [T.size, T.sizes]

theorem zero_size : (T.mk 0 [] []).size ≤ 5000 := by simp [T.size, T.sizes]

/-- What is printed. -/
theorem prn_cases (t : T) : (∃ f : F, f.ok = true ∧ f.t = t ∧ f.depth ≤ 100 ∧ f.text.length ≤ 4096 ∧ prn t = (f.text, 0) ∧ chk t = 0) ∨ ((prn t).2 ≠ 0 ∧ (prn t).1 = [] ∧ (prn t).2 ≤ 93 ∧ (t.may = true → t.depth ≤ 100 → (prn t).2 = 2)) := by
  by_cases hm : t.may = true
  · obtain ⟨ho, he⟩ := fOf_ok hm
    have hp : prn t = printF (fOf t) := by unfold prn; rw [if_pos hm]
    have hd : (fOf t).depth = t.depth := by rw [← (fOf t).depth_t, he]
    unfold printF at hp
    by_cases h1 : 100 < (fOf t).depth
    · rw [if_pos h1] at hp
      exact .inr ⟨by rw [hp]; decide, by rw [hp], by rw [hp]; decide, fun _ h => by omega⟩
    rw [if_neg h1] at hp
    by_cases h2 : 4096 < (fOf t).size
    · rw [if_pos h2] at hp
      exact .inr ⟨by rw [hp]; decide, by rw [hp], by rw [hp]; decide, fun _ _ => by rw [hp]⟩
    rw [if_neg h2] at hp
    by_cases h3 : 4096 < (fOf t).text.length
    · rw [if_pos h3] at hp
      exact .inr ⟨by rw [hp]; decide, by rw [hp], by rw [hp]; decide, fun _ _ => by rw [hp]⟩
    rw [if_neg h3] at hp
    exact .inl ⟨fOf t, ho, he, by omega, by omega, hp, by unfold chk; rw [if_neg (by simp [hm]), if_neg (by omega)]⟩
  · have hp : prn t = ([], 92) := by unfold prn; rw [if_neg hm]
    exact .inr ⟨by rw [hp]; decide, by rw [hp], by rw [hp]; decide, fun h => absurd h hm⟩

/-- What a normal form is. -/
theorem nrm_cases (t : T) : (∃ f : F, f.ok = true ∧ f.t = t ∧ f.depth ≤ 100 ∧ cnt true f ≤ 20000 ∧ nrmE t = 0 ∧ nrmT t = (col true f).t) ∨ (nrmE t ≠ 0 ∧ nrmE t ≤ 93 ∧ nrmT t = .mk 0 [] []) := by
  by_cases h1 : chk t = 0
  · have hm : t.may = true := by
      unfold chk at h1
      cases hc : t.may with
      | true => rfl
      | false => rw [if_pos hc] at h1; omega
    obtain ⟨ho, he⟩ := fOf_ok hm
    have hd : t.depth ≤ 100 := by
      unfold chk at h1
      rw [if_neg (by simp [hm])] at h1
      by_cases hd : 100 < t.depth
      · rw [if_pos hd] at h1; omega
      · omega
    by_cases h2 : 20000 < cnt true (fOf t)
    · have hE : nrmE t = 2 := by unfold nrmE; rw [if_neg (by simpa using h1), if_pos h2]
      exact .inr ⟨by omega, by omega, by unfold nrmT; rw [if_neg (by omega)]⟩
    · have hE : nrmE t = 0 := by unfold nrmE; rw [if_neg (by simpa using h1), if_neg h2]
      exact .inl ⟨fOf t, ho, he, by rw [← (fOf t).depth_t, he]; exact hd, by omega, hE, by unfold nrmT; rw [if_pos hE]⟩
  · have hE : nrmE t = chk t := by unfold nrmE; rw [if_pos h1]
    exact .inr ⟨by omega, by have := chk_lt t; omega, by unfold nrmT; rw [if_neg (by omega)]⟩

theorem nrmT_size (t : T) : (nrmT t).size ≤ 20000 := by
  rcases nrm_cases t with ⟨f, _, _, _, h4, _, h6⟩ | ⟨_, _, h6⟩
  · rw [h6, F.size_t, size_col]; exact h4
  · rw [h6]; simp [T.size, T.sizes]

theorem nrm_f {f : F} (ho : f.ok = true) (hd : f.depth ≤ 100) : nrmE f.t = (if 20000 < cnt true f then 2 else 0) ∧ (cnt true f ≤ 20000 → nrmT f.t = (col true f).t) := by
  have hc : chk f.t = 0 := by unfold chk; rw [if_neg (by simp [f.may_t ho]), f.depth_t, if_neg (by omega)]
  have hE : nrmE f.t = (if 20000 < cnt true f then 2 else 0) := by unfold nrmE; rw [if_neg (by simpa using hc), fOf_t ho]
  exact ⟨hE, fun h => by rw [if_neg (by omega)] at hE; unfold nrmT; rw [if_pos hE, fOf_t ho]⟩

theorem nrm_deep {f : F} (ho : f.ok = true) (hd : 100 < f.depth) : nrmE f.t = 93 := by
  have hc : chk f.t = 93 := by unfold chk; rw [if_neg (by simp [f.may_t ho]), f.depth_t, if_pos hd]
  unfold nrmE
  rw [if_pos (by omega), hc]

end Go.Proofs.YtidihaecgmbhpabDoor
/-
  The formula that every statement of layer 9 reads, prints and brings to its normal form: reckoned.
-/
namespace Go.Proofs.YtidihaecgmbhpabDoor
open Go.RowKit Q

def kp : F := .pr [112]
def kq : F := .pr [113]
def kr : F := .pr [114]
/-- The formula, its normal form. -/
def kF : F := .b .imp (.u .not (.b .weak kp kq)) (.u .always (.u .fin kr))
def kN : F := .b .or (.b .rel kq (.b .or kp kq)) (.b .rel .ff (.b .til .tt kr))
def kS : Wd := [33, 40, 112, 32, 87, 32, 113, 41, 32, 45, 62, 32, 91, 93, 32, 60, 62, 114]

set_option maxRecDepth 100000 in
theorem k_parse : parse kS = .ok kF := by kernel_rfl
theorem k_okF : kF.ok = true := by decide +kernel
theorem k_okN : kN.ok = true := by decide +kernel
theorem k_pt : pt kS = kF.t := (pc_ok k_parse).2
theorem k_pc : pc kS = (0, 0) := (pc_ok k_parse).1
theorem k_prF : prn kF.t = ([33, 40, 112, 32, 87, 32, 113, 41, 32, 45, 62, 32, 91, 93, 32, 60, 62, 32, 114], 0) := by rw [prn_f k_okF]; decide +kernel
theorem k_prN : prn kN.t = ([113, 32, 86, 32, 40, 112, 32, 124, 124, 32, 113, 41, 32, 124, 124, 32, 102, 97, 108, 115, 101, 32, 86, 32, 116, 114, 117, 101, 32, 85, 32, 114], 0) := by rw [prn_f k_okN]; decide +kernel
theorem k_nE : nrmE kF.t = 0 := by rw [(nrm_f k_okF (by decide +kernel)).1]; decide +kernel
theorem k_nT : nrmT kF.t = kN.t := by rw [(nrm_f k_okF (by decide +kernel)).2 (by decide +kernel)]; rfl
theorem k_names : srt (nm kF.t) = [[112], [113], [114]] := by decide +kernel
theorem k_plN : (kN.t.may && plainT kN.t) = true := by rw [plainT_f, kN.may_t k_okN]; decide +kernel
theorem k_plF : (kF.t.may && plainT kF.t) = false := by rw [plainT_f, kF.may_t k_okF]; decide +kernel
theorem k_size : capN kF.t.size = 8 := by decide +kernel
theorem k_small : kF.t.size ≤ 1000000 ∧ kN.t.size ≤ 1000000 := by decide +kernel

end Go.Proofs.YtidihaecgmbhpabDoor
/-
  What every statement of layer 9 asks besides: a formula read, printed, brought to its normal form.
-/
set_option linter.unusedSimpArgs false
namespace Go.Proofs.YtidihaecgmbhpabDoor
open Go.RowKit Q

/-- A box of three cells, then one of two. -/
structure Box5 (w W : World) (c0 c1 c2 m0 m1 : Value) : Prop where
  mv : Nu w W
  a0 : W.cell? ⟨w.heap.size, 0, none⟩ = some c0
  a1 : W.cell? ⟨w.heap.size, 1, none⟩ = some c1
  a2 : W.cell? ⟨w.heap.size, 2, none⟩ = some c2
  b0 : W.cell? ⟨w.heap.size + 1, 0, none⟩ = some m0
  b1 : W.cell? ⟨w.heap.size + 1, 1, none⟩ = some m1

theorem box5 (w : World) (c0 c1 c2 m0 m1 : Value) (t u : TypeId) : Box5 w ((w.alloc (.cells #[c0, c1, c2] t)).alloc (.cells #[m0, m1] u)) c0 c1 c2 m0 m1 := by
  have ha := (Mv.alloc (fun _ => False) (w.alloc (.cells #[c0, c1, c2] t)) (.cells #[m0, m1] u)).heap (heap_alloc_new w _) id
  have hb := heap_alloc_new (w.alloc (.cells #[c0, c1, c2] t)) (.cells #[m0, m1] u)
  rw [show (w.alloc (.cells #[c0, c1, c2] t)).heap.size = w.heap.size + 1 by simp] at hb
  exact ⟨mv0 (Mv.alloc _ w _) (Mv.alloc _ _ _), by rw [cell_blk ha]; rfl, by rw [cell_blk ha]; rfl, by rw [cell_blk ha]; rfl, by rw [cell_blk hb]; rfl, by rw [cell_blk hb]; rfl⟩

theorem TIn.any {w : World} {P : Nat → Prop} {c0 c1 c2 : Value} {t : T} (h : TIn w P c0 c1 c2 t) : TAt w c0 c1 c2 t := h.mono (fun _ _ _ => trivial)

theorem k_print1 (H : Cons) (W : World) (hG : G3 W) (c0 c1 c2 : Value) (h : TAt W c0 c1 c2 kF.t) : Looks 16 #[.agg #[c0, c1, c2]] W (.tuple #[.string ⟨#[33, 40, 112, 32, 87, 32, 113, 41, 32, 45, 62, 32, 91, 93, 32, 60, 62, 32, 114]⟩, .int .i64 0]) := by
  have := H.print kF.t k_small.1 W hG c0 c1 c2 h
  rw [k_prF] at this
  exact this
theorem k_print2 (H : Cons) (W : World) (hG : G3 W) (c0 c1 c2 : Value) (h : TAt W c0 c1 c2 kN.t) : Looks 16 #[.agg #[c0, c1, c2]] W (.tuple #[.string ⟨#[113, 32, 86, 32, 40, 112, 32, 124, 124, 32, 113, 41, 32, 124, 124, 32, 102, 97, 108, 115, 101, 32, 86, 32, 116, 114, 117, 101, 32, 85, 32, 114]⟩, .int .i64 0]) := by
  have := H.print kN.t k_small.2 W hG c0 c1 c2 h
  rw [k_prN] at this
  exact this

set_option maxHeartbeats 8000000 in
theorem known_any (H : Cons) (w : World) (hG : G3 w) : Looks 8 #[] w (.bool true) := by
  have HC := hid H
  have HG := hid hG
  have HP := hid (H.parse kS (by decide +kernel) w hG)
  rw [k_pc, k_pt] at HP
  have HN := hid (fun W (hW : Nu w W) c0 c1 c2 (h : TAt W c0 c1 c2 kF.t) => H.normal kF.t k_small.1 W (hG.nu hW) c0 c1 c2 h)
  rw [k_nE, k_nT] at HN
  have HL := hid (fun W (hW : Nu w W) c0 c1 c2 (h : TAt W c0 c1 c2 kF.t) => H.names kF.t k_small.1 W (hG.nu hW) c0 c1 c2 h)
  rw [k_names] at HL
  have HL1 := hid (fun W (hW : Nu w W) c0 c1 c2 (h : TAt W c0 c1 c2 kN.t) => H.plain kN.t k_small.2 W (hG.nu hW) c0 c1 c2 h)
  rw [k_plN] at HL1
  have HL2 := hid (fun W (hW : Nu w W) c0 c1 c2 (h : TAt W c0 c1 c2 kF.t) => H.plain kF.t k_small.1 W (hG.nu hW) c0 c1 c2 h)
  rw [k_plF] at HL2
  have HS := hid (fun W (hW : Nu w W) c0 c1 c2 (h : TAt W c0 c1 c2 kF.t) => H.size kF.t k_small.1 W (hG.nu hW) c0 c1 c2 h)
  rw [k_size] at HS
  clear H hG
  unfold Looks
  go_enter Tryd.func8, Tryd.ntmps8
  go_wp2_with fail
  refine Calls.mono HP.out ?_
  rintro e w1 ⟨hm1, v, rfl, d0, d1, d2, m, rfl, ht, -⟩
  obtain ⟨k1, s1, a1, l1, c1, rfl, rfl, rfl⟩ := ht.cell3
  have HM1 := hid hm1
  go_upto_region 2 with fail
  have hB := box5 w1 (.int .i64 k1) (.string s1) (.slice a1 l1 c1) (.int .i64 0) (.int .i64 0) 24 34
  generalize hW : World.alloc _ _ = W1 at hB ⊢
  have HB := hid hB
  obtain ⟨hn1, x0, x1, x2, y0, y1⟩ := hB
  have HM2 := hid (mv0 hm1 hn1)
  have HT := hid (ht.nu hn1).any
  clear hW hn1 ht hm1 HB
  go_wp2_with fail
  refine Calls.mono (k_print1 HC.out _ (HG.out.nu HM2.out) _ _ _ HT.out) ?_
  rintro e w2 ⟨rfl, hm2⟩
  have HM3 := hid (mv0 HM2.out hm2)
  have HT2 := hid (HT.out.nu hm2)
  replace x0 := cell_mv hm2 x0 id
  replace x1 := cell_mv hm2 x1 id
  replace x2 := cell_mv hm2 x2 id
  replace y0 := cell_mv hm2 y0 id
  replace y1 := cell_mv hm2 y1 id
  clear hm2 HT HM2
  go_wp2_with fail
  refine Calls.mono (HN.out _ HM3.out _ _ _ HT2.out) ?_
  rintro e w3 ⟨hm3, v, rfl, d0, d1, d2, m, rfl, htn, -⟩
  obtain ⟨k2, s2, a2, l2, c2, rfl, rfl, rfl⟩ := htn.cell3
  have HM4 := hid (mv0 HM3.out hm3)
  have HT3 := hid (HT2.out.nu hm3)
  replace x0 := cell_mv hm3 x0 id
  replace x1 := cell_mv hm3 x1 id
  replace x2 := cell_mv hm3 x2 id
  replace y0 := cell_mv hm3 y0 id
  replace y1 := cell_mv hm3 y1 id
  clear hm3 HT2 HM3
  go_upto_region 4 with fail
  have hB := box3 w3 (.int .i64 k2) (.string s2) (.slice a2 l2 c2) 24
  generalize hW : World.alloc _ _ = W3 at hB ⊢
  obtain ⟨hn3, z0, z1, z2, _⟩ := hB
  have HM5 := hid (mv0 HM4.out hn3)
  have HT4 := hid (HT3.out.nu hn3)
  have HTN := hid (htn.nu hn3).any
  replace x0 := cell_mv hn3 x0 id
  replace x1 := cell_mv hn3 x1 id
  replace x2 := cell_mv hn3 x2 id
  replace y0 := cell_mv hn3 y0 id
  replace y1 := cell_mv hn3 y1 id
  clear hW hn3 htn HT3 HM4
  go_wp2_with fail
  refine Calls.mono (k_print2 HC.out _ (HG.out.nu HM5.out) _ _ _ HTN.out) ?_
  rintro e w4 ⟨rfl, hm4⟩
  have HM6 := hid (mv0 HM5.out hm4)
  have HT5 := hid (HT4.out.nu hm4)
  have HTN2 := hid (HTN.out.nu hm4)
  replace x0 := cell_mv hm4 x0 id
  replace x1 := cell_mv hm4 x1 id
  replace x2 := cell_mv hm4 x2 id
  replace y0 := cell_mv hm4 y0 id
  replace y1 := cell_mv hm4 y1 id
  replace z0 := cell_mv hm4 z0 id
  replace z1 := cell_mv hm4 z1 id
  replace z2 := cell_mv hm4 z2 id
  clear hm4 HT4 HTN HM5
  go_wp2_with fail
  refine Calls.mono (HL.out _ HM6.out _ _ _ HT5.out) ?_
  rintro e w5 ⟨hm5, v, rfl, ao, c, rfl, hrow⟩
  rcases hrow with hrow | ⟨ad, rfl, hrow⟩
  · cases hrow
  have hr2 := hrow 2 [114] rfl
  obtain ⟨g, o, sp⟩ := ad
  have hsp : sp = none := by have := World.cell?_spot (hrow 0 [112] rfl); simpa [Addr.add] using this
  subst hsp
  rw [add_at] at hr2
  have HM7 := hid (mv0 HM6.out hm5)
  have HT6 := hid (HT5.out.nu hm5)
  have HTN3 := hid (HTN2.out.nu hm5)
  replace x0 := cell_mv hm5 x0 id
  replace x1 := cell_mv hm5 x1 id
  replace x2 := cell_mv hm5 x2 id
  replace y0 := cell_mv hm5 y0 id
  replace y1 := cell_mv hm5 y1 id
  replace z0 := cell_mv hm5 z0 id
  replace z1 := cell_mv hm5 z1 id
  replace z2 := cell_mv hm5 z2 id
  have hr3 : w5.cell? ⟨g, o + 2, none⟩ = some (.string ⟨#[114]⟩) := hr2
  clear hm5 HT5 HTN2 HM6 hrow hr2
  simp only [List.length_cons, List.length_nil]
  go_wp2_with fail
  refine Calls.mono (HL1.out _ HM7.out _ _ _ HTN3.out) ?_
  rintro e w6 ⟨rfl, hm6⟩
  replace x0 := cell_mv hm6 x0 id
  replace x1 := cell_mv hm6 x1 id
  replace x2 := cell_mv hm6 x2 id
  have HM8 := hid (mv0 HM7.out hm6)
  have HT7 := hid (HT6.out.nu hm6)
  clear hm6 y0 y1 z0 z1 z2 hr3
  go_wp2_with fail
  refine Calls.mono (HL2.out _ HM8.out _ _ _ HT7.out) ?_
  rintro e w7 ⟨rfl, hm7⟩
  replace x0 := cell_mv hm7 x0 id
  replace x1 := cell_mv hm7 x1 id
  replace x2 := cell_mv hm7 x2 id
  have HM9 := hid (mv0 HM8.out hm7)
  have HT8 := hid (HT7.out.nu hm7)
  clear hm7
  go_wp2_with fail
  refine Calls.mono (HS.out _ HM9.out _ _ _ HT8.out) ?_
  rintro e w8 ⟨rfl, hm8⟩
  have HM10 := hid (mv0 HM9.out hm8)
  go_wp2_with fail
  go_ret
  exact ⟨rfl, HM10.out⟩

end Go.Proofs.YtidihaecgmbhpabDoor
/-
  LtlAround: plain laws, and the operations of its last region.
-/
set_option linter.unusedSimpArgs false
namespace Go.Proofs.YtidihaecgmbhpabDoor
open Go.RowKit Q

/-- A text in parentheses, so often. -/
def wraps (a : Wd) : Nat → Wd
  | 0 => a
  | n + 1 => [40] ++ wraps a n ++ [9] ++ [41]
theorem wraps_len (a : Wd) : ∀ n, (wraps a n).length = a.length + 3 * n
  | 0 => by simp [wraps]
  | n + 1 => by simp only [wraps, List.length_append, List.length_cons, List.length_nil, wraps_len a n]; omega
theorem parse_wraps {a : Wd} {f : F} (h : parse a = .ok f) : ∀ n, (wraps a n).length ≤ 4096 → parse (wraps a n) = .ok f
  | 0, _ => h
  | n + 1, hl => by
    have := wraps_len a n
    have := wraps_len a (n + 1)
    exact parse_paren (parse_wraps h n (by omega)) (by decide) hl

def bAt : Nat → B | 0 => .and | 1 => .or | 2 => .imp | 3 => .iff | 4 => .til | 5 => .rel | _ => .weak
def opWs : List Wd := [[38, 38], [124, 124], [45, 62], [60, 45, 62], [85], [86], [87]]
def opKs : List Int := [8, 9, 10, 11, 12, 13, 14]
theorem opWs_at {j : Nat} (h : j < 7) : opWs[j]? = some (bw (bAt j)) := by
  have : j = 0 ∨ j = 1 ∨ j = 2 ∨ j = 3 ∨ j = 4 ∨ j = 5 ∨ j = 6 := by omega
  rcases this with rfl | rfl | rfl | rfl | rfl | rfl | rfl <;> rfl
theorem opKs_at {j : Nat} (h : j < 7) : opKs[j]? = some (bAt j).kind := by
  have : j = 0 ∨ j = 1 ∨ j = 2 ∨ j = 3 ∨ j = 4 ∨ j = 5 ∨ j = 6 := by omega
  rcases this with rfl | rfl | rfl | rfl | rfl | rfl | rfl <;> rfl
theorem bw_len (o : B) : (bw o).length ≤ 3 := by cases o <;> decide

/-- Two texts in parentheses, an operator between. -/
def bothT (a b : Wd) (o : B) : Wd := [40] ++ a ++ [41] ++ bw o ++ [40] ++ b ++ [41]
theorem both_cases {a b : Wd} {f g : F} (o : B) (ha : parse a = .ok f) (hb : parse b = .ok g) (hl : (bothT a b o).length ≤ 4096) :
    (pc (bothT a b o) = (93, 0) ∧ (100 ≤ f.depth ∨ 100 ≤ g.depth)) ∨ (pc (bothT a b o) = (0, 0) ∧ pt (bothT a b o) = (F.b o f g).t) := by
  have h := parse_both o ha hb hl
  have hd : (F.b o f g).depth = max f.depth g.depth + 1 := rfl
  by_cases hg : 100 < (F.b o f g).depth
  · rw [if_pos hg] at h
    refine .inl ⟨by unfold pc bothT; rw [h], by omega⟩
  · rw [if_neg hg] at h
    exact .inr (pc_ok h)

/-- A row of numbers of its own. -/
structure TabI (w W0 : World) (L : List Int) : Prop where
  mv : Nu w W0
  at' : ∀ (i : Nat) s, L[i]? = some s → W0.cell? ⟨w.heap.size, i, none⟩ = some (.int .i64 s)
theorem tabI (w : World) (L : List Int) (t : TypeId) : TabI w (w.alloc (.cells (L.map fun s => Value.int .i64 s).toArray t)) L := by
  have h := heap_alloc_new w (.cells (L.map fun s => Value.int .i64 s).toArray t)
  exact ⟨Mv.alloc _ _ _, fun i s hs => by rw [cell_blk h]; simp [hs]⟩

section
variable {o : Oper} {a : Act} {w : World} {K : Act → World → Prop} {Q : Exit → Act → World → Prop} {d : Nat}

theorem lk_loadM {s g : Nat} {x y : Int} (hd : o.dst = some d) (ho : o.op = .load 34 (.tmp s)) (hs : a.tmps[s]? = some (.pointer (some ⟨g, 0, none⟩)))
    (h0 : w.cell? ⟨g, 0, none⟩ = some (.int .i64 x)) (h1 : w.cell? ⟨g, 1, none⟩ = some (.int .i64 y)) (hK : ∀ w', Nu w w' → K ⟨a.tmps.setIfInBounds d (.agg #[.int .i64 x, .int .i64 y]), a.defers⟩ w') : Oper.wp Tryd.prog o a w K Q := by
  have he : a.eval (.tmp s) = .pointer (some ⟨g, 0, none⟩) := by simp [Act.eval, hs]
  unfold Oper.wp execOp
  simp only [ho, he, hd]
  go_simp
  exact hK w (Mv.refl _ _)

theorem lk_zeroM (hd : o.dst = some d) (ho : o.op = .build 34 #[]) (hK : ∀ w', Nu w w' → K ⟨a.tmps.setIfInBounds d (.agg #[.int .i64 0, .int .i64 0]), a.defers⟩ w') : Oper.wp Tryd.prog o a w K Q := by
  unfold Oper.wp execOp
  simp only [ho, hd]
  go_simp
  exact hK w (Mv.refl _ _)

theorem lk_eqlM {s r : Nat} (hd : o.dst = some d) (ho : o.op = .binOp .eql 34 (.tmp s) (.tmp r) 34) (hs : a.tmps[s]? = some (.agg #[.int .i64 0, .int .i64 0])) (hr : a.tmps[r]? = some (.agg #[.int .i64 0, .int .i64 0])) (hK : ∀ w', Nu w w' → K ⟨a.tmps.setIfInBounds d (.bool true), a.defers⟩ w') : Oper.wp Tryd.prog o a w K Q := by
  have he : a.eval (.tmp s) = .agg #[.int .i64 0, .int .i64 0] := by simp [Act.eval, hs]
  have he' : a.eval (.tmp r) = .agg #[.int .i64 0, .int .i64 0] := by simp [Act.eval, hr]
  unfold Oper.wp execOp
  simp only [ho, hd]
  go_simp
  exact hK w (Mv.refl _ _)

theorem lk_indexI {s r g j : Nat} (hj : (j : Int) < 7) (hd : o.dst = some d) (ho : o.op = .indexAddr 39 (.tmp s) (.tmp r)) (hs : a.tmps[s]? = some (.slice (some ⟨g, 0, none⟩) 7 7)) (hr : a.tmps[r]? = some (.int .i64 (j : Int))) (hK : ∀ w', Nu w w' → K ⟨a.tmps.setIfInBounds d (.pointer (some ⟨g, j, none⟩)), a.defers⟩ w') : Oper.wp Tryd.prog o a w K Q := by
  have he : a.eval (.tmp s) = .slice (some ⟨g, 0, none⟩) 7 7 := by simp [Act.eval, hs]
  have he' : a.eval (.tmp r) = .int .i64 (j : Int) := by simp [Act.eval, hr]
  unfold Oper.wp execOp
  simp only [ho, hd]
  go_simp
  exact hK w (Mv.refl _ _)

theorem lk_loadI {s g j : Nat} {x : Int} (hd : o.dst = some d) (ho : o.op = .load 3 (.tmp s)) (hs : a.tmps[s]? = some (.pointer (some ⟨g, j, none⟩))) (h0 : w.cell? ⟨g, j, none⟩ = some (.int .i64 x)) (hK : ∀ w', Nu w w' → K ⟨a.tmps.setIfInBounds d (.int .i64 x), a.defers⟩ w') : Oper.wp Tryd.prog o a w K Q := by
  have he : a.eval (.tmp s) = .pointer (some ⟨g, j, none⟩) := by simp [Act.eval, hs]
  unfold Oper.wp execOp
  simp only [ho, he, hd]
  go_simp
  exact hK w (Mv.refl _ _)

theorem lk_buildL {s r : Nat} {x : Int} {ao : Option Addr} {l c : Nat} (hd : o.dst = some d) (ho : o.op = .build 24 #[(0, .tmp s), (2, .tmp r)]) (hs : a.tmps[s]? = some (.int .i64 x)) (hr : a.tmps[r]? = some (.slice ao l c)) (hK : ∀ w', Nu w w' → K ⟨a.tmps.setIfInBounds d (.agg #[.int .i64 x, .string ⟨#[]⟩, .slice ao l c]), a.defers⟩ w') : Oper.wp Tryd.prog o a w K Q := by
  have he : a.eval (.tmp s) = .int .i64 x := by simp [Act.eval, hs]
  have he' : a.eval (.tmp r) = .slice ao l c := by simp [Act.eval, hr]
  unfold Oper.wp execOp
  simp only [ho, hd]
  go_simp
  exact hK w (Mv.refl _ _)

end

/-- What the last region's values are like. -/
def AR (V X Y : Value) (gK j : Nat) (q : Int) (t u : T) : Nat → World → Value → Prop
  | 0, _, v => v = .agg #[.int .i64 0, .int .i64 0]
  | 1, _, v => v = .agg #[.int .i64 0, .int .i64 0]
  | 4, _, v => v = V
  | 5, _, v => v = .slice (some ⟨gK, 0, none⟩) 7 7
  | 6, _, v => v = .int .i64 (j : Int)
  | 7, _, v => v = .pointer (some ⟨gK, j, none⟩)
  | 8, _, v => v = .int .i64 q
  | 9, _, v => v = X
  | 10, _, v => v = Y
  | 11, w, v => ∃ ao l c, v = .slice ao l c ∧ TAt w (.int .i64 q) (.string ⟨#[]⟩) v (.mk q [] [t, u])
  | 12, w, v => ∃ ao l c, v = .agg #[.int .i64 q, .string ⟨#[]⟩, .slice ao l c] ∧ TAt w (.int .i64 q) (.string ⟨#[]⟩) (.slice ao l c) (.mk q [] [t, u])
  | _, _, v => v = .bool true

theorem AR.nu {V X Y : Value} {gK j : Nat} {q : Int} {t u : T} : ∀ (i : Nat) (w w' : World) (v : Value), Nu w w' → AR V X Y gK j q t u i w v → AR V X Y gK j q t u i w' v := by
  intro i w w' v hm h
  match i, h with
  | 11, ⟨ao, l, c, h1, h2⟩ => exact ⟨ao, l, c, h1, h2.nu hm⟩
  | 12, ⟨ao, l, c, h1, h2⟩ => exact ⟨ao, l, c, h1, h2.nu hm⟩
  | 0, h => exact h
  | 1, h => exact h
  | 2, h => exact h
  | 3, h => exact h
  | 4, h => exact h
  | 5, h => exact h
  | 6, h => exact h
  | 7, h => exact h
  | 8, h => exact h
  | 9, h => exact h
  | 10, h => exact h
  | _ + 13, h => exact h

end Go.Proofs.YtidihaecgmbhpabDoor
/-
  LtlAround answers true, whatever the texts and numbers.
-/
set_option linter.unusedSimpArgs false
namespace Go.Proofs.YtidihaecgmbhpabDoor
open Go.RowKit Q

theorem small_len {l : Wd} (h : l.length ≤ 100000) : Small (strOfL l) := by unfold Small; simp [strOfL, ByteArray.size]; omega
theorem small_app {a b : ByteArray} (ha : a.size ≤ 100000) (hb : b.size ≤ 100000) : Small (a ++ b) := by unfold Small; rw [ByteArray.size_append']; omega
theorem size_strOf (l : Wd) : (strOfL l).size = l.length := by simp [strOfL, ByteArray.size]

theorem wraps_str (a : Wd) (i : Nat) : ⟨#[40]⟩ ++ strOfL (wraps a i) ++ ⟨#[9, 41]⟩ = strOfL (wraps a (i + 1)) := by
  rw [show (⟨#[40]⟩ : ByteArray) = strOfL [40] from rfl, show (⟨#[9, 41]⟩ : ByteArray) = strOfL [9, 41] from rfl, str_app, str_app]
  simp [wraps]
theorem both_str (a b : Wd) (o : B) : ⟨#[40]⟩ ++ strOfL a ++ ⟨#[41]⟩ ++ strOfL (bw o) ++ ⟨#[40]⟩ ++ strOfL b ++ ⟨#[41]⟩ = strOfL (bothT a b o) := by
  rw [show (⟨#[40]⟩ : ByteArray) = strOfL [40] from rfl, show (⟨#[41]⟩ : ByteArray) = strOfL [41] from rfl, str_app, str_app, str_app, str_app, str_app, str_app]
  rfl

set_option maxRecDepth 100000 in
set_option maxHeartbeats 16000000 in
theorem LtlAround_walk (H : Cons) (a b : Wd) (n q : Int) (ha : a.length ≤ 140737488355328) (hb : b.length ≤ 140737488355328) (hn : -9223372036854775808 ≤ n ∧ n ≤ 9223372036854775807) (hq : -9223372036854775808 ≤ q ∧ q ≤ 9223372036854775807) (w : World) (hG : G3 w) :
    Looks 4 #[.string (strOfL a), .string (strOfL b), .int .i64 n, .int .i64 q] w (.bool true) := by
  have HC := hid H
  have HG := hid hG
  have HK := hid (fun W (hW : Nu w W) => known_any H W (hG.nu hW))
  have HP1 := hid (fun W (hW : Nu w W) => H.parse a ha W (hG.nu hW))
  have HP2 := hid (fun W (hW : Nu w W) => H.parse b hb W (hG.nu hW))
  have HN := hid (fun W => pick_any n 20 W hn.1 hn.2 (by omega) (by omega))
  have HQ := hid (fun W => pick_any q 7 W hq.1 hq.2 (by omega) (by omega))
  obtain ⟨D, hD⟩ : ∃ D : Nat, pickN n 20 = (D : Int) := ⟨(pickN n 20).toNat, by have := pickN_lo n (n := 20) (by omega); omega⟩
  obtain ⟨j, hj⟩ : ∃ j : Nat, pickN q 7 = (j : Int) := ⟨(pickN q 7).toNat, by have := pickN_lo q (n := 7) (by omega); omega⟩
  have hD2 : D < 20 := by have := pickN_hi n (n := 20) (by omega); omega
  have hj7 : j < 7 := by have := pickN_hi q (n := 7) (by omega); omega
  rw [hD] at HN
  rw [hj] at HQ
  have hca := pc_cases a
  have hcb := pc_cases b
  have HCA := hid hca
  have HCB := hid hcb
  obtain ⟨Ca, hCa⟩ : ∃ C : Nat, (pc a).1 = C := ⟨_, rfl⟩
  obtain ⟨Aa, hAa⟩ : ∃ C : Nat, (pc a).2 = C := ⟨_, rfl⟩
  obtain ⟨Cb, hCb⟩ : ∃ C : Nat, (pc b).1 = C := ⟨_, rfl⟩
  obtain ⟨Ab, hAb⟩ : ∃ C : Nat, (pc b).2 = C := ⟨_, rfl⟩
  have hCa2 : Ca ≤ 93 := by rcases hca with ⟨f, _, h, _⟩ | ⟨_, h, _⟩ <;> rw [← hCa] <;> first | (rw [h]; decide) | exact h
  have hCb2 : Cb ≤ 93 := by rcases hcb with ⟨f, _, h, _⟩ | ⟨_, h, _⟩ <;> rw [← hCb] <;> first | (rw [h]; decide) | exact h
  rw [hCa, hAa] at HP1
  rw [hCb, hAb] at HP2
  have HCa := hid hCa
  have HCb := hid hCb
  obtain ⟨SA, hSA⟩ : ∃ S, strOfL a = S := ⟨_, rfl⟩
  obtain ⟨SB, hSB⟩ : ∃ S, strOfL b = S := ⟨_, rfl⟩
  rw [hSA] at HP1 ⊢
  rw [hSB] at HP2 ⊢
  have HSA := hid hSA
  have HSB := hid hSB
  clear H hG hn hq hD hj hca hcb hCa hAa hCb hAb ha hb hSA hSB
  unfold Looks
  go_enter Tryd.func4, Tryd.ntmps4
  go_wp2_with fail
  refine Calls.mono (HP1.out w (Mv.refl _ _)) ?_
  rintro e w1 ⟨hm1, v, rfl, e0, e1, e2, m1, rfl, ht1, -⟩
  obtain ⟨k1, s1, a1, l1, cap1, rfl, rfl, rfl⟩ := ht1.cell3
  go_upto_region 2 with fail
  have hB := box5 w1 (.int .i64 k1) (.string s1) (.slice a1 l1 cap1) (.int .i64 (Ca : Nat)) (.int .i64 (Aa : Nat)) 24 34
  generalize hW : World.alloc _ _ = W1 at hB ⊢
  obtain ⟨hn1, x0, x1, x2, mx0, mx1⟩ := hB
  have HM1 := hid (mv0 hm1 hn1)
  have HTA := hid (ht1.nu hn1).any
  clear hW hn1 hm1 ht1
  go_wp2_with fail
  refine Calls.mono (HP2.out W1 HM1.out) ?_
  rintro e w2 ⟨hm2, v, rfl, e0, e1, e2, m2, rfl, ht2, -⟩
  obtain ⟨k2, s2, a2, l2, cap2, rfl, rfl, rfl⟩ := ht2.cell3
  replace x0 := cell_mv hm2 x0 id
  replace x1 := cell_mv hm2 x1 id
  replace x2 := cell_mv hm2 x2 id
  replace mx0 := cell_mv hm2 mx0 id
  replace mx1 := cell_mv hm2 mx1 id
  go_upto_region 3 with fail
  have hB := box5 w2 (.int .i64 k2) (.string s2) (.slice a2 l2 cap2) (.int .i64 (Cb : Nat)) (.int .i64 (Ab : Nat)) 24 34
  generalize hW : World.alloc _ _ = W2 at hB ⊢
  obtain ⟨hn2, y0, y1, y2, my0, my1⟩ := hB
  have HM2 := hid (mv0 HM1.out (mv0 hm2 hn2))
  have HTA2 := hid (HTA.out.nu (mv0 hm2 hn2))
  have HTB2 := hid (ht2.nu hn2).any
  replace x0 := cell_mv hn2 x0 id
  replace x1 := cell_mv hn2 x1 id
  replace x2 := cell_mv hn2 x2 id
  replace mx0 := cell_mv hn2 mx0 id
  replace mx1 := cell_mv hn2 mx1 id
  clear hW hn2 hm2 ht2 HM1 HTA HP1 HP2
  by_cases hga : Ca = 0
  case neg =>
    have hga' : ¬ ((Ca : Nat) : Int) = 0 := by omega
    go_wp2_with fail
    refine Calls.mono (HK.out _ HM2.out) ?_
    rintro e w3 ⟨rfl, hm3⟩
    go_wp2_with fail
    go_ret
    exact ⟨rfl, mv0 HM2.out hm3⟩
  by_cases hgb : Cb = 0
  case neg =>
    have hgb' : ¬ ((Cb : Nat) : Int) = 0 := by omega
    have hga' : ((Ca : Nat) : Int) = 0 := by omega
    go_wp2_with fail
    refine Calls.mono (HK.out _ HM2.out) ?_
    rintro e w3 ⟨rfl, hm3⟩
    go_wp2_with fail
    go_ret
    exact ⟨rfl, mv0 HM2.out hm3⟩
  obtain ⟨f, hfp, hfc, hft, hfo, hfd, hal⟩ : ∃ f, parse a = .ok f ∧ pc a = (0, 0) ∧ pt a = f.t ∧ f.ok = true ∧ f.depth ≤ 100 ∧ a.length ≤ 4096 := by
    rcases HCA.out with h | ⟨h, _⟩
    · exact h
    · exact absurd (HCa.out.trans hga) h
  obtain ⟨g, hgp, hgc, hgt, hgo, hgd, hbl⟩ : ∃ f, parse b = .ok f ∧ pc b = (0, 0) ∧ pt b = f.t ∧ f.ok = true ∧ f.depth ≤ 100 ∧ b.length ≤ 4096 := by
    rcases HCB.out with h | ⟨h, _⟩
    · exact h
    · exact absurd (HCb.out.trans hgb) h
  have hfs := pt_size a
  have hgs := pt_size b
  rw [hft] at HTA2 hfs
  rw [hgt] at HTB2 hgs
  have HFP := hid hfp
  have HGP := hid hgp
  have HFS := hid hfs
  have HGS := hid hgs
  have HAL := hid hal
  have HBL := hid hbl
  have hza : SA.size ≤ 4096 := by rw [← HSA.out, size_strOf]; exact hal
  have hzb : SB.size ≤ 4096 := by rw [← HSB.out, size_strOf]; exact hbl
  clear hfp hfc hft hfo hfd hgp hgc hgt hgo hgd hfs hgs hal hbl HCA HCB HCa HCb hCa2 hCb2
  subst hga hgb
  rw [show ((0 : Nat) : Int) = 0 from rfl] at mx0 my0 ⊢
  go_wp2_with fail
  have X := hid (And.intro x0 (And.intro x1 x2))
  have Y := hid (And.intro y0 (And.intro y1 y2))
  clear x0 x1 x2 y0 y1 y2 mx0 mx1 my0 my1
  go_loopw [13, 14] (fun sv iv wr => ∃ i : Nat, i ≤ D ∧ iv = .int .i64 (i : Int) ∧ sv = .string (strOfL (wraps a i)) ∧ Hid (Nu W2 wr)) (fun _ iv _ => D - (intOf iv).toNat)
  case atStart => exact ⟨0, Nat.zero_le _, rfl, by rw [← HSA.out]; rfl, Mv.refl _ _⟩
  case round =>
    obtain ⟨i, hi, rfl, rfl, HW⟩ := hrel
    have hwl : (strOfL (wraps a i)).size ≤ 5000 := by rw [size_strOf, wraps_len]; have := HAL.out; omega
    have hws := wraps_str a i
    have hln : (strOfL (wraps a i)).size = (wraps a i).length := size_strOf _
    obtain ⟨S, hS⟩ : ∃ S, strOfL (wraps a i) = S := ⟨_, rfl⟩
    rw [hS] at hwl hws hln ⊢
    have HS := hid hS
    have HWS := hid hws
    have HLN := hid hln
    clear hS hws hln
    go_wp2_with fail
    refine Calls.mono (HN.out _) ?_
    rintro e w3 ⟨rfl, hw3⟩
    subst hw3
    by_cases hlt : i < D
    · have hlt' : (i : Int) < (D : Int) := by omega
      have sm1 : Small ⟨#[40]⟩ := by unfold Small; decide
      have sm2 : Small S := by unfold Small; omega
      have sm3 : Small (⟨#[40]⟩ ++ S) := small_app (by decide) (by omega)
      have sm4 : Small ⟨#[9, 41]⟩ := by unfold Small; decide
      go_wp2_with fail
      go_roundw
      case rel => exact ⟨i + 1, hlt, by go_num, by rw [← HWS.out], HW⟩
      case measure => simp [intOf]; omega
    · have hlt' : ¬ (i : Int) < (D : Int) := by omega
      have hiD : i = D := by omega
      subst hiD
      go_upto_region 11 with fail
      have hT := tab w3 opWs 9
      obtain ⟨W3, hW3⟩ : ∃ W3, w3.alloc (.cells (opWs.map fun s => Value.string (strOfL s)).toArray 9) = W3 := ⟨_, rfl⟩
      change Code.wp _ _ _ _ (w3.alloc (.cells (opWs.map fun s => Value.string (strOfL s)).toArray 9))
      rw [hW3] at hT ⊢
      have HT := hid hT
      clear hT hW3
      go_upto_region 12 with fail
      have hT := tabI W3 opKs 3
      obtain ⟨W4, hW4⟩ : ∃ W4, W3.alloc (.cells (opKs.map fun s => Value.int .i64 s).toArray 3) = W4 := ⟨_, rfl⟩
      change Code.wp _ _ _ _ (W3.alloc (.cells (opKs.map fun s => Value.int .i64 s).toArray 3))
      rw [hW4] at hT ⊢
      have HTI := hid hT
      clear hT hW4
      go_wp2_with fail
      refine Calls.mono (HQ.out _) ?_
      rintro e w5 ⟨rfl, hw5⟩
      subst hw5
      have hj7' : (j : Int) < 7 := by omega
      have hcw := cell_mv HTI.out.mv (HT.out.at' j _ (opWs_at hj7)) id
      have hck := HTI.out.at' j _ (opKs_at hj7)
      have hbw := bw_len (bAt j)
      have hbz : (strOfL (bw (bAt j))).size ≤ 3 := by rw [size_strOf]; exact hbw
      have sm1 : Small ⟨#[40]⟩ := by unfold Small; decide
      have sm2 : Small ⟨#[41]⟩ := by unfold Small; decide
      have sm3 : Small SA := by unfold Small; omega
      have sm4 : Small SB := by unfold Small; omega
      have z1 : (⟨#[40]⟩ ++ SA : ByteArray).size ≤ 5000 := by rw [ByteArray.size_append']; show 1 + _ ≤ _; omega
      have z2 : (⟨#[40]⟩ ++ SA ++ ⟨#[41]⟩ : ByteArray).size ≤ 5001 := by rw [ByteArray.size_append']; show _ + 1 ≤ _; omega
      have z3 : (⟨#[40]⟩ ++ SA ++ ⟨#[41]⟩ ++ strOfL (bw (bAt j)) : ByteArray).size ≤ 5004 := by rw [ByteArray.size_append']; omega
      have z4 : (⟨#[40]⟩ ++ SA ++ ⟨#[41]⟩ ++ strOfL (bw (bAt j)) ++ ⟨#[40]⟩ : ByteArray).size ≤ 5005 := by rw [ByteArray.size_append']; show _ + 1 ≤ _; omega
      have z5 : (⟨#[40]⟩ ++ SA ++ ⟨#[41]⟩ ++ strOfL (bw (bAt j)) ++ ⟨#[40]⟩ ++ SB : ByteArray).size ≤ 10000 := by rw [ByteArray.size_append']; omega
      have t1 : Small (⟨#[40]⟩ ++ SA) := by unfold Small; omega
      have t2 : Small (⟨#[40]⟩ ++ SA ++ ⟨#[41]⟩) := by unfold Small; omega
      have t3 : Small (⟨#[40]⟩ ++ SA ++ ⟨#[41]⟩ ++ strOfL (bw (bAt j))) := by unfold Small; omega
      have t4 : Small (⟨#[40]⟩ ++ SA ++ ⟨#[41]⟩ ++ strOfL (bw (bAt j)) ++ ⟨#[40]⟩) := by unfold Small; omega
      have t5 : Small (⟨#[40]⟩ ++ SA ++ ⟨#[41]⟩ ++ strOfL (bw (bAt j)) ++ ⟨#[40]⟩ ++ SB) := by unfold Small; omega
      have t6 : Small (strOfL (bw (bAt j))) := by unfold Small; omega
      have hbs := both_str a b (bAt j)
      rw [HSA.out, HSB.out] at hbs
      obtain ⟨BW, hBW⟩ : ∃ BW, strOfL (bw (bAt j)) = BW := ⟨_, rfl⟩
      rw [hBW] at hcw t3 t4 t5 t6 hbs
      have HCK := hid hck
      have HBS := hid hbs
      clear z1 z2 z3 z4 z5 hbw hbz hBW hck hbs
      go_upto_region 14 with fail
      rw [HBS.out]
      obtain ⟨Z, hZ⟩ : ∃ Z, strOfL (bothT a b (bAt j)) = Z := ⟨_, rfl⟩
      have hzl : Z.size = (bothT a b (bAt j)).length := by rw [← hZ, size_strOf]
      have hzz : Z.size ≤ 20000 := by rw [hzl]; simp only [bothT, List.length_append, List.length_cons, List.length_nil]; have h1 := HAL.out; have h2 := HBL.out; have h3 := bw_len (bAt j); omega
      rw [hZ]
      have HZ := hid hZ
      have HZL := hid hzl
      clear hZ hzl t1 t2 t3 t4 t5 t6 sm1 sm2 sm3 sm4 hcw HBS
      have hnu : Nu W2 w5 := mv0 (mv0 HW.out HT.out.mv) HTI.out.mv
      have x0 := cell_mv hnu X.out.1 id
      have x1 := cell_mv hnu X.out.2.1 id
      have x2 := cell_mv hnu X.out.2.2 id
      have y0 := cell_mv hnu Y.out.1 id
      have y1 := cell_mv hnu Y.out.2.1 id
      have y2 := cell_mv hnu Y.out.2.2 id
      have HM5 := hid (mv0 HM2.out hnu)
      have HTX5 := hid (HTA2.out.nu hnu)
      have HTY5 := hid (HTB2.out.nu hnu)
      clear hnu
      by_cases hl1 : (wraps a i).length ≤ 4096
      case neg =>
        have hl1' : (S.size : Int) > 4096 := by have := HLN.out; omega
        go_wp2_with fail
        refine Calls.mono (HK.out _ HM5.out) ?_
        rintro e w6 ⟨rfl, hm6⟩
        go_wp2_with fail
        go_ret
        exact ⟨rfl, mv0 HM5.out hm6⟩
      have hl1' : ¬ (S.size : Int) > 4096 := by have := HLN.out; omega
      by_cases hl2 : (bothT a b (bAt j)).length ≤ 4096
      case neg =>
        have hl2' : (Z.size : Int) > 4096 := by have := HZL.out; omega
        go_wp2_with fail
        refine Calls.mono (HK.out _ HM5.out) ?_
        rintro e w6 ⟨rfl, hm6⟩
        go_wp2_with fail
        go_ret
        exact ⟨rfl, mv0 HM5.out hm6⟩
      have hl2' : ¬ (Z.size : Int) > 4096 := by have := HZL.out; omega
      obtain ⟨hpw1, hpw2⟩ := pc_ok (parse_wraps HFP.out i hl1)
      have HP3 := hid (fun W (hW : Nu w W) => HC.out.parse (wraps a i) (by omega) W (HG.out.nu hW))
      rw [hpw1, hpw2, HS.out] at HP3
      have HP4 := hid (fun W (hW : Nu w W) => HC.out.parse (bothT a b (bAt j)) (by omega) W (HG.out.nu hW))
      rw [HZ.out] at HP4
      have HBC := hid (both_cases (bAt j) HFP.out HGP.out hl2)
      have hfsz : f.t.size ≤ 1000000 := by have := HFS.out; omega
      have HSF := hid (fun W (hW : Nu w W) c0 c1 c2 d0 d1 d2 => HC.out.same f.t f.t hfsz hfsz W (HG.out.nu hW) c0 c1 c2 d0 d1 d2)
      rw [T.same_refl] at HSF
      dsimp only at HP3
      clear hpw1 hpw2 hl1 hl2 hfsz
      go_wp2_with fail
      refine Calls.mono (HP3.out _ HM5.out) ?_
      rintro e w6 ⟨hm6, v, rfl, e0, e1, e2, m6, rfl, ht6, -⟩
      obtain ⟨k6, s6, a6, l6, cap6, rfl, rfl, rfl⟩ := ht6.cell3
      replace x0 := cell_mv hm6 x0 id
      replace x1 := cell_mv hm6 x1 id
      replace x2 := cell_mv hm6 x2 id
      replace y0 := cell_mv hm6 y0 id
      replace y1 := cell_mv hm6 y1 id
      replace y2 := cell_mv hm6 y2 id
      have kc := cell_mv hm6 HCK.out id
      have HM6 := hid (mv0 HM5.out hm6)
      have HTX6 := hid (HTX5.out.nu hm6)
      have HTY6 := hid (HTY5.out.nu hm6)
      clear hm6 HM5 HTX5 HTY5
      go_upto_region 17 with fail
      have hB := box5 w6 (.int .i64 k6) (.string s6) (.slice a6 l6 cap6) (.int .i64 0) (.int .i64 0) 24 34
      generalize hW : World.alloc _ _ = W6 at hB ⊢
      obtain ⟨hn6, p0, p1, p2, r0, r1⟩ := hB
      have HM7 := hid (mv0 HM6.out hn6)
      have HTU7 := hid (ht6.nu hn6).any
      have HTX7 := hid (HTX6.out.nu hn6)
      have HTY7 := hid (HTY6.out.nu hn6)
      replace x0 := cell_mv hn6 x0 id
      replace x1 := cell_mv hn6 x1 id
      replace x2 := cell_mv hn6 x2 id
      replace y0 := cell_mv hn6 y0 id
      replace y1 := cell_mv hn6 y1 id
      replace y2 := cell_mv hn6 y2 id
      replace kc := cell_mv hn6 kc id
      clear hW hn6 ht6 HM6 HTX6 HTY6
      go_wp2_with fail
      refine Calls.mono (HP4.out _ HM7.out) ?_
      rintro e w7 ⟨hm7, v, rfl, e0, e1, e2, m7, rfl, ht7, -⟩
      obtain ⟨k7, s7, a7, l7, cap7, rfl, rfl, rfl⟩ := ht7.cell3
      replace x0 := cell_mv hm7 x0 id
      replace x1 := cell_mv hm7 x1 id
      replace x2 := cell_mv hm7 x2 id
      replace y0 := cell_mv hm7 y0 id
      replace y1 := cell_mv hm7 y1 id
      replace y2 := cell_mv hm7 y2 id
      replace kc := cell_mv hm7 kc id
      replace p0 := cell_mv hm7 p0 id
      replace p1 := cell_mv hm7 p1 id
      replace p2 := cell_mv hm7 p2 id
      replace r0 := cell_mv hm7 r0 id
      replace r1 := cell_mv hm7 r1 id
      have HM8 := hid (mv0 HM7.out hm7)
      have HTU8 := hid (HTU7.out.nu hm7)
      have HTX8 := hid (HTX7.out.nu hm7)
      have HTY8 := hid (HTY7.out.nu hm7)
      clear hm7 HM7 HTU7 HTX7 HTY7
      rcases HBC.out with ⟨hb1, hdep⟩ | ⟨hb1, hb2⟩
      · rw [hb1]
        dsimp only
        have HDP := hid hdep
        clear hb1 hdep ht7 kc
        go_upto_region 18 with fail
        have hB := box5 w7 (.int .i64 k7) (.string s7) (.slice a7 l7 cap7) (.int .i64 93) (.int .i64 0) 24 34
        generalize hW : World.alloc _ _ = W7 at hB ⊢
        obtain ⟨hn7, q0, q1, q2, u0, u1⟩ := hB
        have HM9 := hid (mv0 HM8.out hn7)
        have HTU9 := hid (HTU8.out.nu hn7)
        have HTX9 := hid (HTX8.out.nu hn7)
        have HTY9 := hid (HTY8.out.nu hn7)
        replace x0 := cell_mv hn7 x0 id
        replace x1 := cell_mv hn7 x1 id
        replace x2 := cell_mv hn7 x2 id
        replace y0 := cell_mv hn7 y0 id
        replace y1 := cell_mv hn7 y1 id
        replace y2 := cell_mv hn7 y2 id
        replace p0 := cell_mv hn7 p0 id
        replace p1 := cell_mv hn7 p1 id
        replace p2 := cell_mv hn7 p2 id
        replace r0 := cell_mv hn7 r0 id
        replace r1 := cell_mv hn7 r1 id
        clear hW hn7 HM8 HTU8 HTX8 HTY8
        go_wp2_with fail
        refine Calls.mono (HSF.out _ HM9.out _ _ _ _ _ _ HTU9.out HTX9.out) ?_
        rintro e w8 ⟨rfl, hm8⟩
        have HM10 := hid (mv0 HM9.out hm8)
        have HTX10 := hid (HTX9.out.nu hm8)
        have HTY10 := hid (HTY9.out.nu hm8)
        replace x0 := cell_mv hm8 x0 id
        replace x1 := cell_mv hm8 x1 id
        replace x2 := cell_mv hm8 x2 id
        replace y0 := cell_mv hm8 y0 id
        replace y1 := cell_mv hm8 y1 id
        replace y2 := cell_mv hm8 y2 id
        replace u0 := cell_mv hm8 u0 id
        replace u1 := cell_mv hm8 u1 id
        clear hm8 HM9 HTU9 HTX9 HTY9 p0 p1 p2 r0 r1 q0 q1 q2
        have HD1 := hid (fun W c0 c1 c2 hh => Depth_any f.t (by have := HFS.out; omega) W c0 c1 c2 hh)
        have HD2 := hid (fun W c0 c1 c2 hh => Depth_any g.t (by have := HGS.out; omega) W c0 c1 c2 hh)
        rw [f.depth_t] at HD1
        rw [g.depth_t] at HD2
        have hfd := f.t.depth_le_size
        have hgd := g.t.depth_le_size
        rw [f.depth_t] at hfd
        rw [g.depth_t] at hgd
        have hfd2 : f.depth ≤ 5000 := by have := HFS.out; omega
        have hgd2 : g.depth ≤ 5000 := by have := HGS.out; omega
        generalize f.depth = df at *
        generalize g.depth = dg at *
        clear hfd hgd
        go_wp2_with fail
        refine Calls.mono (HD1.out _ _ _ _ HTX10.out) ?_
        rintro e w9 ⟨rfl, hm9⟩
        have HM11 := hid (mv0 HM10.out hm9)
        have HTY11 := hid (HTY10.out.nu hm9)
        replace y0 := cell_mv hm9 y0 id
        replace y1 := cell_mv hm9 y1 id
        replace y2 := cell_mv hm9 y2 id
        clear hm9 HM10 HTX10 HTY10 x0 x1 x2 u0 u1
        by_cases hd1 : 100 ≤ df
        · have hd1' : ((df : Nat) : Int) ≥ 100 := by omega
          go_wp2_with fail
          go_ret
          exact ⟨rfl, HM11.out⟩
        · have hd1' : ¬ ((df : Nat) : Int) ≥ 100 := by omega
          have hd2' : ((dg : Nat) : Int) ≥ 100 := by rcases HDP.out with h | h <;> omega
          go_wp2_with fail
          refine Calls.mono (HD2.out _ _ _ _ HTY11.out) ?_
          rintro e w10 ⟨rfl, hm10⟩
          have HM12 := hid (mv0 HM11.out hm10)
          clear hm10
          go_wp2_with fail
          go_ret
          exact ⟨rfl, HM12.out⟩
      · have hsb := pt_size (bothT a b (bAt j))
        rw [hb1]
        rw [hb2] at ht7 hsb
        dsimp only
        have hbt : (F.b (bAt j) f g).t = .mk (bAt j).kind [] [f.t, g.t] := rfl
        have hsb2 : (F.b (bAt j) f g).t.size ≤ 1000000 := by omega
        have HS22 := hid (fun W (hW : Nu w W) c0 c1 c2 d0 d1 d2 => HC.out.same (F.b (bAt j) f g).t (F.b (bAt j) f g).t hsb2 hsb2 W (HG.out.nu hW) c0 c1 c2 d0 d1 d2)
        rw [T.same_refl] at HS22
        rw [hbt] at HS22 ht7
        have HKB : Hid (-9223372036854775808 ≤ (bAt j).kind ∧ (bAt j).kind ≤ 9223372036854775807) := hid (by generalize bAt j = o; cases o <;> decide)
        clear hb1 hb2 hsb hsb2 hbt
        go_upto_region 18 with fail
        have hB := box5 w7 (.int .i64 k7) (.string s7) (.slice a7 l7 cap7) (.int .i64 0) (.int .i64 0) 24 34
        generalize hW : World.alloc _ _ = W7 at hB ⊢
        obtain ⟨hn7, q0, q1, q2, u0, u1⟩ := hB
        have HM9 := hid (mv0 HM8.out hn7)
        have HTU9 := hid (HTU8.out.nu hn7)
        have HTX9 := hid (HTX8.out.nu hn7)
        have HTY9 := hid (HTY8.out.nu hn7)
        have HTV9 := hid (ht7.nu hn7).any
        replace x0 := cell_mv hn7 x0 id
        replace x1 := cell_mv hn7 x1 id
        replace x2 := cell_mv hn7 x2 id
        replace y0 := cell_mv hn7 y0 id
        replace y1 := cell_mv hn7 y1 id
        replace y2 := cell_mv hn7 y2 id
        replace p0 := cell_mv hn7 p0 id
        replace p1 := cell_mv hn7 p1 id
        replace p2 := cell_mv hn7 p2 id
        replace r0 := cell_mv hn7 r0 id
        replace r1 := cell_mv hn7 r1 id
        replace kc := cell_mv hn7 kc id
        clear hW hn7 ht7 HM8 HTU8 HTX8 HTY8
        go_wp2_with fail
        refine Calls.mono (HSF.out _ HM9.out _ _ _ _ _ _ HTU9.out HTX9.out) ?_
        rintro e w8 ⟨rfl, hm8⟩
        have HM10 := hid (mv0 HM9.out hm8)
        have HTX := hid (HTX9.out.nu hm8)
        have HTY := hid (HTY9.out.nu hm8)
        have HTV := hid (HTV9.out.nu hm8)
        replace x0 := cell_mv hm8 x0 id
        replace x1 := cell_mv hm8 x1 id
        replace x2 := cell_mv hm8 x2 id
        replace y0 := cell_mv hm8 y0 id
        replace y1 := cell_mv hm8 y1 id
        replace y2 := cell_mv hm8 y2 id
        replace u0 := cell_mv hm8 u0 id
        replace u1 := cell_mv hm8 u1 id
        replace q0 := cell_mv hm8 q0 id
        replace q1 := cell_mv hm8 q1 id
        replace q2 := cell_mv hm8 q2 id
        replace kc := cell_mv hm8 kc id
        clear hm8 HM9 HTU9 HTX9 HTY9 HTV9 p0 p1 p2 r0 r1
        go_upto_region 22 with fail
        rename_i KC hKC
        refine wp_lookR (AR (.agg #[.int .i64 k7, .string s7, .slice a7 l7 cap7]) (.agg #[.int .i64 k1, .string s1, .slice a1 l1 cap1]) (.agg #[.int .i64 k2, .string s2, .slice a2 l2 cap2]) W3.heap.size j (bAt j).kind f.t g.t) AR.nu (by kernel_rfl) (by kernel_rfl) ?step ?post
        case step =>
          intro i o d a w' ho hd hn hfr had K hK
          have hi : i < 19 := (Array.getElem?_eq_some_iff.1 ho).1
          have f9 := hfr 9 (by kernel_rfl)
          have f11 := hfr 11 (by kernel_rfl)
          have f16 := hfr 16 (by kernel_rfl)
          have f17 := hfr 17 (by kernel_rfl)
          have f21 := hfr 21 (by kernel_rfl)
          have f22 := hfr 22 (by kernel_rfl)
          have : i = 0 ∨ i = 1 ∨ i = 2 ∨ i = 3 ∨ i = 4 ∨ i = 5 ∨ i = 6 ∨ i = 7 ∨ i = 8 ∨ i = 9 ∨ i = 10 ∨ i = 11 ∨ i = 12 ∨ i = 13 ∨ i = 14 ∨ i = 15 ∨ i = 16 ∨ i = 17 ∨ i = 18 := by omega
          rcases this with rfl | rfl | rfl | rfl | rfl | rfl | rfl | rfl | rfl | rfl | rfl | rfl | rfl | rfl | rfl | rfl | rfl | rfl | rfl <;> cases ho <;> cases hd
          · exact ite_yes (want_none rfl) (lk_loadM rfl rfl f22 (cell_mv hn u0 id) (cell_mv hn u1 id) (fun w' hm => hK w' _ hm rfl))
          · exact ite_yes (want_none rfl) (lk_zeroM rfl rfl (fun w' hm => hK w' _ hm rfl))
          · obtain ⟨⟨_, h0, rfl⟩, ⟨_, h1, rfl⟩, _⟩ := had; exact ite_yes (want_none rfl) (lk_eqlM rfl rfl h0 h1 (fun w' hm => hK w' _ hm rfl))
          · obtain ⟨⟨_, h0, rfl⟩, _⟩ := had; exact ite_yes (want_none rfl) (lk_move rfl rfl h0 (fun w' hm => hK w' _ hm rfl))
          · obtain ⟨⟨_, h0, rfl⟩, _⟩ := had; exact ite_yes (want_some rfl rfl rfl h0) (lk_load rfl rfl f21 (cell_mv hn q0 id) (cell_mv hn q1 id) (cell_mv hn q2 id) (fun w' hm => hK w' _ hm rfl))
          · obtain ⟨⟨_, h0, rfl⟩, _⟩ := had; exact ite_yes (want_some rfl rfl rfl h0) (lk_move rfl rfl f16 (fun w' hm => hK w' _ hm rfl))
          · obtain ⟨⟨_, h0, rfl⟩, _⟩ := had; exact ite_yes (want_some rfl rfl rfl h0) (lk_move rfl rfl f17 (fun w' hm => hK w' _ hm rfl))
          · obtain ⟨⟨_, h0, rfl⟩, ⟨_, h1, rfl⟩, ⟨_, h2, rfl⟩, _⟩ := had; exact ite_yes (want_some rfl rfl rfl h2) (lk_indexI hj7' rfl rfl h0 h1 (fun w' hm => hK w' _ hm rfl))
          · obtain ⟨⟨_, h0, rfl⟩, ⟨_, h1, rfl⟩, _⟩ := had; exact ite_yes (want_some rfl rfl rfl h1) (lk_loadI rfl rfl h0 (cell_mv hn kc id) (fun w' hm => hK w' _ hm rfl))
          · obtain ⟨⟨_, h0, rfl⟩, _⟩ := had; exact ite_yes (want_some rfl rfl rfl h0) (lk_load rfl rfl f9 (cell_mv hn x0 id) (cell_mv hn x1 id) (cell_mv hn x2 id) (fun w' hm => hK w' _ hm rfl))
          · obtain ⟨⟨_, h0, rfl⟩, _⟩ := had; exact ite_yes (want_some rfl rfl rfl h0) (lk_load rfl rfl f11 (cell_mv hn y0 id) (cell_mv hn y1 id) (cell_mv hn y2 id) (fun w' hm => hK w' _ hm rfl))
          · obtain ⟨⟨_, h0, rfl⟩, ⟨_, h1, rfl⟩, ⟨_, h2, rfl⟩, _⟩ := had; exact ite_yes (want_some rfl rfl rfl h2) (op_bs2 rfl rfl h0 h1 ⟨_, _, _, _, _, rfl, rfl, rfl⟩ ⟨_, _, _, _, _, rfl, rfl, rfl⟩ (hK _ _ (Mv.alloc _ _ _) ⟨_, _, _, rfl, (isL2 (HTX.out.nu hn) (HTY.out.nu hn) trivial).2 _ HKB.out⟩))
          · obtain ⟨⟨_, h0, rfl⟩, ⟨_, h1, _, _, _, rfl, ht⟩, ⟨_, h2, rfl⟩, _⟩ := had; exact ite_yes (want_some rfl rfl rfl h2) (lk_buildL rfl rfl h0 h1 (fun w' hm => hK w' _ hm ⟨_, _, _, rfl, ht.nu hm⟩))
          · obtain ⟨⟨_, h0, rfl⟩, ⟨_, h1, _, _, _, rfl, ht⟩, ⟨_, h2, rfl⟩, ⟨_, h3, rfl⟩, _⟩ := had; exact ite_yes (want_some rfl rfl rfl h3) (lk_ltlSame rfl rfl h0 h1 (HS22.out _ (mv0 HM10.out hn) _ _ _ _ _ _ (HTV.out.nu hn) ht) (fun w' hm => hK w' _ hm rfl))
          · obtain ⟨⟨_, h0, rfl⟩, ⟨_, h1, rfl⟩, _⟩ := had; exact ite_yes (want_none rfl) (lk_pickT rfl rfl h0 h1 (fun w' hm => hK w' _ hm rfl))
          · obtain ⟨⟨_, h0, rfl⟩, ⟨_, h1, rfl⟩, _⟩ := had; exact ite_yes (want_none rfl) (lk_move rfl rfl h0 (fun w' hm => hK w' _ hm rfl))
          · obtain ⟨⟨_, h0, rfl⟩, ⟨_, h1, rfl⟩, _⟩ := had; exact ite_yes (want_some rfl rfl rfl h0) (lk_known rfl rfl (HK.out _ (mv0 HM10.out hn)) (fun w' hm => hK w' _ hm rfl))
          · obtain ⟨⟨_, h0, rfl⟩, ⟨_, h1, rfl⟩, _⟩ := had; exact ite_yes (want_none rfl) (lk_pickT rfl rfl h0 h1 (fun w' hm => hK w' _ hm rfl))
          · obtain ⟨⟨_, h0, rfl⟩, ⟨_, h1, rfl⟩, _⟩ := had; exact ite_yes (want_none rfl) (lk_assign rfl rfl h0 (fun w' hm => hK w' _ hm rfl))
        case post =>
          intro a' w9 hn9 hdf _ _ htv
          obtain ⟨v, h8, rfl⟩ := htv 18 _ 8 rfl rfl
          refine hKC _ _ ?_
          refine wp_ret ?_
          refine bodyPost_ret (v := .bool true) (by simp [results, Tryd.results4, go_sem, h8]) (by rw [hdf]) ?_
          exact ⟨rfl, mv0 HM10.out hn9⟩

end Go.Proofs.YtidihaecgmbhpabDoor
