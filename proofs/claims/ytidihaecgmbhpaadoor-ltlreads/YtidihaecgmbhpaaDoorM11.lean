/-
  VTab, QC, QW, QKnown0, QKnown.
-/
import Derived.Laws.Rows
import Derived.Test.YtidihaecgmbhpaaDoorM1
import Derived.Test.YtidihaecgmbhpaaDoorM9
/-
  The program's own tables: what they hold, and how they are read.
-/
set_option linter.unusedSimpArgs false
namespace Go.Proofs.YtidihaecgmbhpaaDoor
open Go.RowKit Q

/-- Signs and their kinds, in the program's order. -/
def sgnT : List (Wd × Int) := [([91, 93], 6), ([60, 62], 7), ([60, 45, 62], 11), ([45, 62], 10), ([33], 4), ([38, 38], 8), ([47, 92], 8), ([124, 124], 9), ([92, 47], 9), ([40], -1), ([41], -2)]
/-- Rows of letters that are no names, and their kinds. -/
def resT : List (Wd × Int) := [([116, 114, 117, 101], 1), ([102, 97, 108, 115, 101], 2), ([88], 5), ([85], 12), ([86], 13), ([87], 14), ([97, 108, 119, 97, 121, 115], 6), ([101, 118, 101, 110, 116, 117, 97, 108, 108, 121], 7), ([110, 101, 120, 116], 5), ([117, 110, 116, 105, 108], 12), ([114, 101, 108, 101, 97, 115, 101], 13), ([119, 101, 97, 107, 117, 110, 116, 105, 108], 14)]
/-- Kinds: text, kids, level, left, right. -/
def shpT : List (Wd × Int × Int × Int × Int) := [([], 0, 0, 0, 0), ([116, 114, 117, 101], 0, 6, 0, 0), ([102, 97, 108, 115, 101], 0, 6, 0, 0), ([], 0, 6, 0, 0), ([33], 1, 5, 0, 5), ([88, 32], 1, 5, 0, 5), ([91, 93, 32], 1, 5, 0, 5), ([60, 62, 32], 1, 5, 0, 5),
  ([32, 38, 38, 32], 2, 3, 3, 4), ([32, 124, 124, 32], 2, 2, 2, 3), ([32, 45, 62, 32], 2, 1, 2, 1), ([32, 60, 45, 62, 32], 2, 0, 1, 0), ([32, 85, 32], 2, 4, 5, 4), ([32, 86, 32], 2, 4, 5, 4), ([32, 87, 32], 2, 4, 5, 4)]

def spellC (L : List (Wd × Int)) : Array Value := (L.flatMap fun x => [Value.string (strOfL x.1), .int .i64 x.2]).toArray
def shapeC : Array Value := (shpT.flatMap fun x => [Value.string (strOfL x.1), .int .i64 x.2.1, .int .i64 x.2.2.1, .int .i64 x.2.2.2.1, .int .i64 x.2.2.2.2]).toArray

/-- The tables lie as the program lays them. -/
structure Gl (w : World) : Prop where
  shp : w.heap[0]? = some (.cells shapeC 115 (0, 0))
  sgn : w.heap[1]? = some (.cells (spellC sgnT) 120 (0, 0))
  res : w.heap[2]? = some (.cells (spellC resT) 136 (0, 0))

theorem Gl.nu {w w' : World} (h : Gl w) (hm : Nu w w') : Gl w' := ⟨hm.heap h.shp id, hm.heap h.sgn id, hm.heap h.res id⟩
theorem Gl.mv {S : Nat → Prop} {w w' : World} (h : Gl w) (hm : Mv S w w') (hS : ∀ x, S x → 3 ≤ x) : Gl w' :=
  ⟨hm.heap h.shp fun e => by have := hS _ e; omega, hm.heap h.sgn fun e => by have := hS _ e; omega, hm.heap h.res fun e => by have := hS _ e; omega⟩

theorem load_res {w : World} (h : Gl w) : (Instr.loadAt 136 (.pointer (some ⟨2, 0, none⟩))).run Tryd.prog w = .ok (.agg (spellC resT)) w := by
  simp only [Instr.loadAt, Instr.sureAddr, Sem.run_bind, Sem.run_pure, Result.andThen_ok]
  exact run_loadVar_row w _ _ _ _ _ _ h.res Tryd.underlying136 rfl (by kernel_rfl)
theorem load_sgn {w : World} (h : Gl w) : (Instr.loadAt 120 (.pointer (some ⟨1, 0, none⟩))).run Tryd.prog w = .ok (.agg (spellC sgnT)) w := by
  simp only [Instr.loadAt, Instr.sureAddr, Sem.run_bind, Sem.run_pure, Result.andThen_ok]
  exact run_loadVar_row w _ _ _ _ _ _ h.sgn Tryd.underlying120 rfl (by kernel_rfl)

theorem index_res (w : World) : ∀ (i : Nat) x, resT[i]? = some x → (Instr.index 136 (.agg (spellC resT)) (.int .i64 (i : Int))).run Tryd.prog w = .ok (.agg #[.string (strOfL x.1), .int .i64 x.2]) w := by
  intro i x hx
  have hi : i < 12 := (List.getElem?_eq_some_iff.1 hx).1
  rcases i with _ | _ | _ | _ | _ | _ | _ | _ | _ | _ | _ | _ | i
  all_goals (try (exfalso; omega))
  all_goals (cases hx; show Sem.run _ _ _ = _; kernel_rfl)
theorem index_sgn (w : World) : ∀ (i : Nat) x, sgnT[i]? = some x → (Instr.index 120 (.agg (spellC sgnT)) (.int .i64 (i : Int))).run Tryd.prog w = .ok (.agg #[.string (strOfL x.1), .int .i64 x.2]) w := by
  intro i x hx
  have hi : i < 11 := (List.getElem?_eq_some_iff.1 hx).1
  rcases i with _ | _ | _ | _ | _ | _ | _ | _ | _ | _ | _ | i
  all_goals (try (exfalso; omega))
  all_goals (cases hx; show Sem.run _ _ _ = _; kernel_rfl)

/-- The kind of a row of letters. -/
def wkind (s : Wd) : Int := match resT.find? (fun x => x.1 == s) with
  | some x => x.2
  | none => 3

theorem find_at {α : Type} {q : α → Bool} : ∀ {l : List α} {i : Nat} {x : α}, l[i]? = some x → q x = true → (∀ (j : Nat) y, j < i → l[j]? = some y → q y = false) → l.find? q = some x
  | [], i, x, h, _, _ => by simp at h
  | a :: l, 0, x, h, hq, _ => by simp at h; subst h; simp [List.find?, hq]
  | a :: l, i + 1, x, h, hq, hn => by
    have h0 := hn 0 a (by omega) rfl
    rw [List.find?_cons, h0]
    exact find_at (by simpa using h) hq (fun j y hj hy => hn (j + 1) y (by omega) (by simpa using hy))
theorem find_no {α : Type} {q : α → Bool} {l : List α} (h : ∀ (j : Nat) y, l[j]? = some y → q y = false) : l.find? q = none := by
  rw [List.find?_eq_none]
  intro x hx
  obtain ⟨j, hj, rfl⟩ := List.getElem_of_mem hx
  simp [h j _ (List.getElem?_eq_getElem hj)]

set_option maxHeartbeats 2000000 in
theorem wordKind_any (s : Wd) (w : World) (hG : Gl w) : Looks 74 #[.string (strOfL s)] w (.int .i64 (wkind s)) := by
  have hR := hG.res
  have hz : (Tryd.prog.info? 136).map (·.size) = some (spellC resT).size := by kernel_rfl
  have hI := index_res
  have HW : Hid (∀ (i : Nat) (x : Wd × Int), resT[i]? = some x → x.1 = s → (∀ (j : Nat) y, j < i → resT[j]? = some y → y.1 ≠ s) → wkind s = x.2) := fun i x hx h1 h2 => by
    unfold wkind
    rw [find_at hx (by simp [h1]) (fun j y hj hy => by simpa using h2 j y hj hy)]
  have HN : Hid ((∀ (j : Nat) (y : Wd × Int), resT[j]? = some y → y.1 ≠ s) → wkind s = 3) := fun h => by
    unfold wkind
    rw [find_no (fun j y hy => by simpa using h j y hy)]
  generalize spellC resT = C at hR hI hz
  have HI := hid hI
  have HR := hid hR
  have HZ := hid hz
  clear hI hR hz hG
  unfold Looks
  go_enter Tryd.func74, Tryd.ntmps74
  go_wp2_with (refine wpList_load_row rfl _ _ rfl _ rfl _ _ _ _ HR.out Tryd.underlying136 rfl HZ.out ?_)
  go_loopw [6] (fun iv wr => ∃ i : Nat, i ≤ 12 ∧ iv = .int .i64 (i : Int) ∧ Hid (Nu w wr) ∧ Hid (∀ (j : Nat) (y : Wd × Int), j < i → resT[j]? = some y → y.1 ≠ s)) (fun iv _ => 12 - (intOf iv).toNat)
  case atStart => exact ⟨0, Nat.zero_le _, rfl, Mv.refl _ _, fun j t hj => absurd hj (Nat.not_lt_zero _)⟩
  case round =>
    obtain ⟨i, hi, rfl, HM, HF⟩ := hrel
    by_cases hj : i < 12
    · have hj' : (i : Int) < 12 := by omega
      obtain ⟨x, hx⟩ : ∃ x, resT[i]? = some x := ⟨_, List.getElem?_eq_getElem (by exact hj)⟩
      have hIx := HI.out wr i x hx
      have HX := hid hx
      obtain ⟨x1, x2⟩ := x
      clear hx
      by_cases he : x1 = s
      · subst he
        have HE := hid (HW.out i _ HX.out rfl HF.out)
        go_wp2_with fail
        go_ret
        exact ⟨ret_i64 HE.out.symm, mv0 HM.out (mv0 (Mv.alloc _ _ _) (Mv.refl _ _))⟩
      · have he' : ((strOfL x1).toList == (strOfL s).toList) = false := by rw [strOfL_toList, strOfL_toList]; simpa using he
        have HF1 : Hid (∀ (j : Nat) (y : Wd × Int), j < i + 1 → resT[j]? = some y → y.1 ≠ s) := fun j y h1 h2 => by
          by_cases hji : j = i
          · subst hji
            rw [HX.out] at h2
            cases h2
            exact he
          · exact HF.out j y (by omega) h2
        clear he
        go_wp2_with fail
        go_roundw
        case rel => exact ⟨i + 1, hj, by go_num, mv0 HM.out (Mv.alloc _ _ _), HF1⟩
        case measure => simp [intOf]; omega
    · have hj' : ¬ (i : Int) < 12 := by omega
      have HE : Hid (wkind s = 3) := HN.out (fun j y hy => HF.out j y (by have := (List.getElem?_eq_some_iff.1 hy).1; have h12 : resT.length = 12 := rfl; omega) hy)
      go_wp2_with fail
      go_ret
      exact ⟨ret_i64 HE.out.symm, HM.out⟩

end Go.Proofs.YtidihaecgmbhpaaDoor
/-
  What the program's own functions of layer 9 are asked to give: the contracts that the statements' walks stand on. Nothing of the program's text but the functions' numbers.
-/
set_option linter.unusedSimpArgs false
namespace Go.Proofs.YtidihaecgmbhpaaDoor
open Go.RowKit Q

/-- A tree's formula, if it may be. -/
noncomputable def fOf (t : T) : F := if h : t.may = true then Classical.choose (T.may_f t h) else .tt
theorem fOf_ok {t : T} (h : t.may = true) : (fOf t).ok = true ∧ (fOf t).t = t := by
  unfold fOf
  rw [dif_pos h]
  exact Classical.choose_spec (T.may_f t h)
theorem fOf_t {f : F} (h : f.ok = true) : fOf f.t = f := F.t_inj _ _ (fOf_ok (f.may_t h)).2

/-- What is read of a text: the tree, what is wrong and where. -/
def pt (s : Wd) : T := match parse s with | .ok f => f.t | .error _ => .mk 0 [] []
def pc (s : Wd) : Nat × Nat := match parse s with | .ok _ => (0, 0) | .error x => x

/-- A tree's text, and what is wrong. -/
noncomputable def prn (t : T) : Wd × Nat := if t.may = true then printF (fOf t) else ([], 92)
theorem prn_f {f : F} (h : f.ok = true) : prn f.t = printF f := by unfold prn; rw [if_pos (f.may_t h), fOf_t h]

/-- A tree's normal form, and what is wrong. -/
noncomputable def nrmE (t : T) : Nat := if chk t ≠ 0 then chk t else if 20000 < cnt true (fOf t) then 2 else 0
noncomputable def nrmT (t : T) : T := if nrmE t = 0 then (col true (fOf t)).t else .mk 0 [] []

/-- A tree that is its owner's: in new blocks, to be written to the bottom. -/
def Ows (w w' : World) (v : Value) (t : T) : Prop := ∃ d0 d1 d2 m, v = .agg #[d0, d1, d2] ∧ TIn w' (fun b => w.heap.size ≤ b) d0 d1 d2 t ∧ Sp w' (fun b => w.heap.size ≤ b) m d2

/-- What a formula may be rewritten as. -/
def Rw (t : T) (e : Nat) (u : T) : Prop := (nrmE t ≠ 0 ∧ e = nrmE t ∧ u = .mk 0 [] []) ∨ (nrmE t = 0 ∧ e = 0 ∧ (u.may && plainT u) = true ∧ u.size ≤ (nrmT t).size ∧ (∀ n, n ∈ nm u → n ∈ nm (nrmT t)) ∧ ((nrmT t).hasNext = false → u.hasNext = false))

/-- The program's tables lie where they were laid. -/
def G3 (w : World) : Prop := Gl w ∧ 3 ≤ w.heap.size
theorem G3.nu {w w' : World} (h : G3 w) (hm : Nu w w') : G3 w' := ⟨h.1.nu hm, Nat.le_trans h.2 hm.size⟩

/-- The contracts. -/
structure Cons : Prop where
  parse : ∀ (s : Wd), s.length ≤ 140737488355328 → ∀ w, G3 w → Calls Tryd.prog 8 #[.string (strOfL s)] w fun e w' => Nu w w' ∧ ∃ v, e = .returned (.tuple #[v, .agg #[.int .i64 ((pc s).1 : Int), .int .i64 ((pc s).2 : Int)]]) ∧ Ows w w' v (pt s)
  print : ∀ t : T, t.size ≤ 1000000 → ∀ w, G3 w → ∀ c0 c1 c2, TAt w c0 c1 c2 t → Looks 15 #[.agg #[c0, c1, c2]] w (.tuple #[.string (strOfL (prn t).1), .int .i64 ((prn t).2 : Int)])
  check : ∀ t : T, t.size ≤ 1000000 → ∀ w, G3 w → ∀ c0 c1 c2, TAt w c0 c1 c2 t → Looks 19 #[.agg #[c0, c1, c2]] w (.int .i64 (chk t : Int))
  name : ∀ (s : Wd), s.length ≤ 140737488355328 → ∀ w, G3 w → Looks 69 #[.string (strOfL s)] w (.bool (isName s))
  names : ∀ t : T, t.size ≤ 1000000 → ∀ w, G3 w → ∀ c0 c1 c2, TAt w c0 c1 c2 t → Calls Tryd.prog 27 #[.agg #[c0, c1, c2]] w fun e w' => Nu w w' ∧ ∃ v, e = .returned v ∧ RowAt w' v (srt (nm t))
  size : ∀ t : T, t.size ≤ 1000000 → ∀ w, G3 w → ∀ c0 c1 c2, TAt w c0 c1 c2 t → Looks 29 #[.agg #[c0, c1, c2]] w (.int .i64 (capN t.size : Int))
  same : ∀ t u : T, t.size ≤ 1000000 → u.size ≤ 1000000 → ∀ w, G3 w → ∀ c0 c1 c2 d0 d1 d2, TAt w c0 c1 c2 t → TAt w d0 d1 d2 u → Looks 18 #[.agg #[c0, c1, c2], .agg #[d0, d1, d2]] w (.bool (t.same u))
  normal : ∀ t : T, t.size ≤ 1000000 → ∀ w, G3 w → ∀ c0 c1 c2, TAt w c0 c1 c2 t → Calls Tryd.prog 17 #[.agg #[c0, c1, c2]] w fun e w' => Nu w w' ∧ ∃ v, e = .returned (.tuple #[v, .int .i64 (nrmE t : Int)]) ∧ Ows w w' v (nrmT t)
  plain : ∀ t : T, t.size ≤ 1000000 → ∀ w, G3 w → ∀ c0 c1 c2, TAt w c0 c1 c2 t → Looks 28 #[.agg #[c0, c1, c2]] w (.bool (t.may && plainT t))
  -- no such function here
  -- no such function here

end Go.Proofs.YtidihaecgmbhpaaDoor
/-
  What follows of what is read, printed and brought to a normal form. Plain laws over the contracts' words.
-/
namespace Go.Proofs.YtidihaecgmbhpaaDoor
open Go.RowKit Q

theorem tks_at : ∀ (f p : Nat) (s : Wd) (q : Nat), tks f p s = .error q → q ≤ p + s.length
  | 0, _, _, q, h => by simp [tks] at h
  | _ + 1, _, [], q, h => by simp [tks] at h
  | f + 1, p, c :: r, q, h => by
    rw [tks] at h
    split at h
    · have := tks_at f _ r q h
      simp only [List.length_cons]
      omega
    · split at h
      · injection h with h; omega
      · rename_i w hw
        split at h
        · cases h
        · rename_i e he
          injection h with h
          subst h
          have hle := (one_pre hw).1.length_le
          have := tks_at f _ _ _ he
          rw [List.length_drop] at this
          omega
theorem tokens_at {s : Wd} {q : Nat} (h : tokens s = .error q) : q ≤ s.length := by
  have := tks_at _ _ _ _ h
  omega

/-- What is wrong has a number, and a place in the text. -/
theorem parse_bad {s : Wd} {c p : Nat} (h : parse s = .error (c, p)) : c ≠ 0 ∧ c ≤ 93 ∧ p ≤ s.length := by
  unfold parse at h
  by_cases h1 : 4096 < s.length
  · rw [if_pos h1] at h
    injection h with h; injection h with h2 h3
    omega
  rw [if_neg h1] at h
  cases ht : tokens s with
  | error q =>
    rw [ht] at h
    injection h with h; injection h with h2 h3
    exact ⟨by omega, by omega, by rw [← h3]; exact tokens_at ht⟩
  | ok l =>
    rw [ht] at h
    obtain ⟨hl, hw⟩ := tokens_len ht
    have hat : ∀ k : Nat, ((l.map (·.2))[k]?.getD 0) ≤ s.length := by
      intro k
      cases hk : (l.map (·.2))[k]? with
      | none => simp
      | some y =>
        rw [List.getElem?_map] at hk
        cases hx : l[k]? with
        | none => rw [hx] at hk; simp at hk
        | some x =>
          rw [hx] at hk
          simp only [Option.map_some, Option.some.injEq] at hk
          subst hk
          exact (hw x (List.mem_of_getElem? hx)).2
    simp only at h
    have hf := fuel0 (l.map (·.1))
    rw [List.length_map] at hf
    cases hm : fm (8 * l.length + 8) 0 (l.map (·.1)) with
    | none => exact absurd hm hf
    | some y =>
      rw [hm] at h
      cases y with
      | error e =>
        simp only at h
        by_cases he : e = 0
        · rw [if_pos he] at h
          injection h with h; injection h with h2 h3
          omega
        · rw [if_neg he] at h
          injection h with h; injection h with h2 h3
          exact ⟨by omega, by omega, by rw [← h3]; exact hat _⟩
      | ok tr =>
        obtain ⟨t, r⟩ := tr
        simp only at h
        by_cases hr : r.length = 0
        · rw [if_pos hr] at h
          by_cases hd : 100 < t.depth
          · rw [if_pos hd] at h
            injection h with h; injection h with h2 h3
            omega
          · rw [if_neg hd] at h
            cases h
        · rw [if_neg hr] at h
          injection h with h; injection h with h2 h3
          exact ⟨by omega, by omega, by rw [← h3]; exact hat _⟩

/-- A text that is read, or not. -/
theorem pc_cases (s : Wd) : (∃ f, parse s = .ok f ∧ pc s = (0, 0) ∧ pt s = f.t ∧ f.ok = true ∧ f.depth ≤ 100 ∧ s.length ≤ 4096) ∨ ((pc s).1 ≠ 0 ∧ (pc s).1 ≤ 93 ∧ (pc s).2 ≤ s.length ∧ pt s = .mk 0 [] []) := by
  cases h : parse s with
  | ok f =>
    obtain ⟨h1, h2, h3, _⟩ := of_parse h
    exact .inl ⟨f, rfl, by unfold pc; rw [h], by unfold pt; rw [h], h3, h2, h1⟩
  | error x =>
    obtain ⟨c, p⟩ := x
    obtain ⟨h1, h3, h2⟩ := parse_bad h
    exact .inr ⟨by unfold pc; rw [h]; exact h1, by unfold pc; rw [h]; exact h3, by unfold pc; rw [h]; exact h2, by unfold pt; rw [h]⟩

theorem pc_ok {s : Wd} {f : F} (h : parse s = .ok f) : pc s = (0, 0) ∧ pt s = f.t := ⟨by unfold pc; rw [h], by unfold pt; rw [h]⟩

/-- What is read has few parts. -/
theorem pt_size (s : Wd) : (pt s).size ≤ 5000 := by
  rcases pc_cases s with ⟨f, h, _, h2, _, _, _⟩ | ⟨_, _, _, h2⟩
  · rw [h2, f.size_t]
    unfold parse at h
    by_cases h1 : 4096 < s.length
    · rw [if_pos h1] at h; cases h
    rw [if_neg h1] at h
    cases ht : tokens s with
    | error q => rw [ht] at h; cases h
    | ok l =>
      rw [ht] at h
      obtain ⟨hl, hw⟩ := tokens_len ht
      simp only at h
      cases hm : fm (8 * l.length + 8) 0 (l.map (·.1)) with
      | none => rw [hm] at h; cases h
      | some y =>
        rw [hm] at h
        cases y with
        | error e => simp only at h; split at h <;> cases h
        | ok tr =>
          obtain ⟨t, r⟩ := tr
          simp only at h
          have hsl := (size_le _).1 _ _ _ _ hm
          rw [List.length_map] at hsl
          split at h
          · split at h
            · cases h
            · injection h with h
              subst h
              omega
          · cases h
  · rw [h2]; simp [T.size, T.sizes]

theorem zero_size : (T.mk 0 [] []).size ≤ 5000 := by simp [T.size, T.sizes]

/-- What is printed. -/
theorem prn_cases (t : T) : (∃ f : F, f.ok = true ∧ f.t = t ∧ f.depth ≤ 100 ∧ f.text.length ≤ 4096 ∧ prn t = (f.text, 0) ∧ chk t = 0) ∨ ((prn t).2 ≠ 0 ∧ (prn t).1 = [] ∧ (prn t).2 ≤ 93 ∧ (t.may = true → t.depth ≤ 100 → (prn t).2 = 2)) := by
  by_cases hm : t.may = true
  · obtain ⟨ho, he⟩ := fOf_ok hm
    have hp : prn t = printF (fOf t) := by unfold prn; rw [if_pos hm]
    have hd : (fOf t).depth = t.depth := by rw [← (fOf t).depth_t, he]
    unfold printF at hp
    by_cases h1 : 100 < (fOf t).depth
    · rw [if_pos h1] at hp
      exact .inr ⟨by rw [hp]; decide, by rw [hp], by rw [hp]; decide, fun _ h => by omega⟩
    rw [if_neg h1] at hp
    by_cases h2 : 4096 < (fOf t).size
    · rw [if_pos h2] at hp
      exact .inr ⟨by rw [hp]; decide, by rw [hp], by rw [hp]; decide, fun _ _ => by rw [hp]⟩
    rw [if_neg h2] at hp
    by_cases h3 : 4096 < (fOf t).text.length
    · rw [if_pos h3] at hp
      exact .inr ⟨by rw [hp]; decide, by rw [hp], by rw [hp]; decide, fun _ _ => by rw [hp]⟩
    rw [if_neg h3] at hp
    exact .inl ⟨fOf t, ho, he, by omega, by omega, hp, by unfold chk; rw [if_neg (by simp [hm]), if_neg (by omega)]⟩
  · have hp : prn t = ([], 92) := by unfold prn; rw [if_neg hm]
    exact .inr ⟨by rw [hp]; decide, by rw [hp], by rw [hp]; decide, fun h => absurd h hm⟩

/-- What a normal form is. -/
theorem nrm_cases (t : T) : (∃ f : F, f.ok = true ∧ f.t = t ∧ f.depth ≤ 100 ∧ cnt true f ≤ 20000 ∧ nrmE t = 0 ∧ nrmT t = (col true f).t) ∨ (nrmE t ≠ 0 ∧ nrmE t ≤ 93 ∧ nrmT t = .mk 0 [] []) := by
  by_cases h1 : chk t = 0
  · have hm : t.may = true := by
      unfold chk at h1
      cases hc : t.may with
      | true => rfl
      | false => rw [if_pos hc] at h1; omega
    obtain ⟨ho, he⟩ := fOf_ok hm
    have hd : t.depth ≤ 100 := by
      unfold chk at h1
      rw [if_neg (by simp [hm])] at h1
      by_cases hd : 100 < t.depth
      · rw [if_pos hd] at h1; omega
      · omega
    by_cases h2 : 20000 < cnt true (fOf t)
    · have hE : nrmE t = 2 := by unfold nrmE; rw [if_neg (by simpa using h1), if_pos h2]
      exact .inr ⟨by omega, by omega, by unfold nrmT; rw [if_neg (by omega)]⟩
    · have hE : nrmE t = 0 := by unfold nrmE; rw [if_neg (by simpa using h1), if_neg h2]
      exact .inl ⟨fOf t, ho, he, by rw [← (fOf t).depth_t, he]; exact hd, by omega, hE, by unfold nrmT; rw [if_pos hE]⟩
  · have hE : nrmE t = chk t := by unfold nrmE; rw [if_pos h1]
    exact .inr ⟨by omega, by have := chk_lt t; omega, by unfold nrmT; rw [if_neg (by omega)]⟩

theorem nrmT_size (t : T) : (nrmT t).size ≤ 20000 := by
  rcases nrm_cases t with ⟨f, _, _, _, h4, _, h6⟩ | ⟨_, _, h6⟩
  · rw [h6, F.size_t, size_col]; exact h4
  · rw [h6]; simp [T.size, T.sizes]

theorem nrm_f {f : F} (ho : f.ok = true) (hd : f.depth ≤ 100) : nrmE f.t = (if 20000 < cnt true f then 2 else 0) ∧ (cnt true f ≤ 20000 → nrmT f.t = (col true f).t) := by
  have hc : chk f.t = 0 := by unfold chk; rw [if_neg (by simp [f.may_t ho]), f.depth_t, if_neg (by omega)]
  have hE : nrmE f.t = (if 20000 < cnt true f then 2 else 0) := by unfold nrmE; rw [if_neg (by simpa using hc), fOf_t ho]
  exact ⟨hE, fun h => by rw [if_neg (by omega)] at hE; unfold nrmT; rw [if_pos hE, fOf_t ho]⟩

theorem nrm_deep {f : F} (ho : f.ok = true) (hd : 100 < f.depth) : nrmE f.t = 93 := by
  have hc : chk f.t = 93 := by unfold chk; rw [if_neg (by simp [f.may_t ho]), f.depth_t, if_pos hd]
  unfold nrmE
  rw [if_pos (by omega), hc]

end Go.Proofs.YtidihaecgmbhpaaDoor
/-
  The formula that every statement of layer 9 reads, prints and brings to its normal form: reckoned.
-/
namespace Go.Proofs.YtidihaecgmbhpaaDoor
open Go.RowKit Q

def kp : F := .pr [112]
def kq : F := .pr [113]
def kr : F := .pr [114]
/-- The formula, its normal form. -/
def kF : F := .b .imp (.u .not (.b .weak kp kq)) (.u .always (.u .fin kr))
def kN : F := .b .or (.b .rel kq (.b .or kp kq)) (.b .rel .ff (.b .til .tt kr))
def kS : Wd := [33, 40, 112, 32, 87, 32, 113, 41, 32, 45, 62, 32, 91, 93, 32, 60, 62, 114]

set_option maxRecDepth 100000 in
theorem k_parse : parse kS = .ok kF := by kernel_rfl
theorem k_okF : kF.ok = true := by decide +kernel
theorem k_okN : kN.ok = true := by decide +kernel
theorem k_pt : pt kS = kF.t := (pc_ok k_parse).2
theorem k_pc : pc kS = (0, 0) := (pc_ok k_parse).1
theorem k_prF : prn kF.t = ([33, 40, 112, 32, 87, 32, 113, 41, 32, 45, 62, 32, 91, 93, 32, 60, 62, 32, 114], 0) := by rw [prn_f k_okF]; decide +kernel
theorem k_prN : prn kN.t = ([113, 32, 86, 32, 40, 112, 32, 124, 124, 32, 113, 41, 32, 124, 124, 32, 102, 97, 108, 115, 101, 32, 86, 32, 116, 114, 117, 101, 32, 85, 32, 114], 0) := by rw [prn_f k_okN]; decide +kernel
theorem k_nE : nrmE kF.t = 0 := by rw [(nrm_f k_okF (by decide +kernel)).1]; decide +kernel
theorem k_nT : nrmT kF.t = kN.t := by rw [(nrm_f k_okF (by decide +kernel)).2 (by decide +kernel)]; rfl
theorem k_names : srt (nm kF.t) = [[112], [113], [114]] := by decide +kernel
theorem k_plN : (kN.t.may && plainT kN.t) = true := by rw [plainT_f, kN.may_t k_okN]; decide +kernel
theorem k_plF : (kF.t.may && plainT kF.t) = false := by rw [plainT_f, kF.may_t k_okF]; decide +kernel
theorem k_size : capN kF.t.size = 8 := by decide +kernel
theorem k_small : kF.t.size ≤ 1000000 ∧ kN.t.size ≤ 1000000 := by decide +kernel

end Go.Proofs.YtidihaecgmbhpaaDoor
/-
  What every statement of layer 9 asks besides: a formula read, printed, brought to its normal form.
-/
set_option linter.unusedSimpArgs false
namespace Go.Proofs.YtidihaecgmbhpaaDoor
open Go.RowKit Q

/-- A box of three cells, then one of two. -/
structure Box5 (w W : World) (c0 c1 c2 m0 m1 : Value) : Prop where
  mv : Nu w W
  a0 : W.cell? ⟨w.heap.size, 0, none⟩ = some c0
  a1 : W.cell? ⟨w.heap.size, 1, none⟩ = some c1
  a2 : W.cell? ⟨w.heap.size, 2, none⟩ = some c2
  b0 : W.cell? ⟨w.heap.size + 1, 0, none⟩ = some m0
  b1 : W.cell? ⟨w.heap.size + 1, 1, none⟩ = some m1

theorem box5 (w : World) (c0 c1 c2 m0 m1 : Value) (t u : TypeId) : Box5 w ((w.alloc (.cells #[c0, c1, c2] t)).alloc (.cells #[m0, m1] u)) c0 c1 c2 m0 m1 := by
  have ha := (Mv.alloc (fun _ => False) (w.alloc (.cells #[c0, c1, c2] t)) (.cells #[m0, m1] u)).heap (heap_alloc_new w _) id
  have hb := heap_alloc_new (w.alloc (.cells #[c0, c1, c2] t)) (.cells #[m0, m1] u)
  rw [show (w.alloc (.cells #[c0, c1, c2] t)).heap.size = w.heap.size + 1 by simp] at hb
  exact ⟨mv0 (Mv.alloc _ w _) (Mv.alloc _ _ _), by rw [cell_blk ha]; rfl, by rw [cell_blk ha]; rfl, by rw [cell_blk ha]; rfl, by rw [cell_blk hb]; rfl, by rw [cell_blk hb]; rfl⟩

theorem TIn.any {w : World} {P : Nat → Prop} {c0 c1 c2 : Value} {t : T} (h : TIn w P c0 c1 c2 t) : TAt w c0 c1 c2 t := h.mono (fun _ _ _ => trivial)

theorem k_print1 (H : Cons) (W : World) (hG : G3 W) (c0 c1 c2 : Value) (h : TAt W c0 c1 c2 kF.t) : Looks 15 #[.agg #[c0, c1, c2]] W (.tuple #[.string ⟨#[33, 40, 112, 32, 87, 32, 113, 41, 32, 45, 62, 32, 91, 93, 32, 60, 62, 32, 114]⟩, .int .i64 0]) := by
  have := H.print kF.t k_small.1 W hG c0 c1 c2 h
  rw [k_prF] at this
  exact this
theorem k_print2 (H : Cons) (W : World) (hG : G3 W) (c0 c1 c2 : Value) (h : TAt W c0 c1 c2 kN.t) : Looks 15 #[.agg #[c0, c1, c2]] W (.tuple #[.string ⟨#[113, 32, 86, 32, 40, 112, 32, 124, 124, 32, 113, 41, 32, 124, 124, 32, 102, 97, 108, 115, 101, 32, 86, 32, 116, 114, 117, 101, 32, 85, 32, 114]⟩, .int .i64 0]) := by
  have := H.print kN.t k_small.2 W hG c0 c1 c2 h
  rw [k_prN] at this
  exact this

set_option maxHeartbeats 8000000 in
theorem known_any (H : Cons) (w : World) (hG : G3 w) : Looks 11 #[] w (.bool true) := by
  have HC := hid H
  have HG := hid hG
  have HP := hid (H.parse kS (by decide +kernel) w hG)
  rw [k_pc, k_pt] at HP
  have HN := hid (fun W (hW : Nu w W) c0 c1 c2 (h : TAt W c0 c1 c2 kF.t) => H.normal kF.t k_small.1 W (hG.nu hW) c0 c1 c2 h)
  rw [k_nE, k_nT] at HN
  have HL := hid (fun W (hW : Nu w W) c0 c1 c2 (h : TAt W c0 c1 c2 kF.t) => H.names kF.t k_small.1 W (hG.nu hW) c0 c1 c2 h)
  rw [k_names] at HL
  have HL1 := hid (fun W (hW : Nu w W) c0 c1 c2 (h : TAt W c0 c1 c2 kN.t) => H.plain kN.t k_small.2 W (hG.nu hW) c0 c1 c2 h)
  rw [k_plN] at HL1
  have HL2 := hid (fun W (hW : Nu w W) c0 c1 c2 (h : TAt W c0 c1 c2 kF.t) => H.plain kF.t k_small.1 W (hG.nu hW) c0 c1 c2 h)
  rw [k_plF] at HL2
  have HS := hid (fun W (hW : Nu w W) c0 c1 c2 (h : TAt W c0 c1 c2 kF.t) => H.size kF.t k_small.1 W (hG.nu hW) c0 c1 c2 h)
  rw [k_size] at HS
  clear H hG
  unfold Looks
  go_enter Tryd.func11, Tryd.ntmps11
  go_wp2_with fail
  refine Calls.mono HP.out ?_
  rintro e w1 ⟨hm1, v, rfl, d0, d1, d2, m, rfl, ht, -⟩
  obtain ⟨k1, s1, a1, l1, c1, rfl, rfl, rfl⟩ := ht.cell3
  have HM1 := hid hm1
  go_upto_region 2 with fail
  have hB := box5 w1 (.int .i64 k1) (.string s1) (.slice a1 l1 c1) (.int .i64 0) (.int .i64 0) 24 27
  generalize hW : World.alloc _ _ = W1 at hB ⊢
  have HB := hid hB
  obtain ⟨hn1, x0, x1, x2, y0, y1⟩ := hB
  have HM2 := hid (mv0 hm1 hn1)
  have HT := hid (ht.nu hn1).any
  clear hW hn1 ht hm1 HB
  go_wp2_with fail
  refine Calls.mono (k_print1 HC.out _ (HG.out.nu HM2.out) _ _ _ HT.out) ?_
  rintro e w2 ⟨rfl, hm2⟩
  have HM3 := hid (mv0 HM2.out hm2)
  have HT2 := hid (HT.out.nu hm2)
  replace x0 := cell_mv hm2 x0 id
  replace x1 := cell_mv hm2 x1 id
  replace x2 := cell_mv hm2 x2 id
  replace y0 := cell_mv hm2 y0 id
  replace y1 := cell_mv hm2 y1 id
  clear hm2 HT HM2
  go_wp2_with fail
  refine Calls.mono (HN.out _ HM3.out _ _ _ HT2.out) ?_
  rintro e w3 ⟨hm3, v, rfl, d0, d1, d2, m, rfl, htn, -⟩
  obtain ⟨k2, s2, a2, l2, c2, rfl, rfl, rfl⟩ := htn.cell3
  have HM4 := hid (mv0 HM3.out hm3)
  have HT3 := hid (HT2.out.nu hm3)
  replace x0 := cell_mv hm3 x0 id
  replace x1 := cell_mv hm3 x1 id
  replace x2 := cell_mv hm3 x2 id
  replace y0 := cell_mv hm3 y0 id
  replace y1 := cell_mv hm3 y1 id
  clear hm3 HT2 HM3
  go_upto_region 4 with fail
  have hB := box3 w3 (.int .i64 k2) (.string s2) (.slice a2 l2 c2) 24
  generalize hW : World.alloc _ _ = W3 at hB ⊢
  obtain ⟨hn3, z0, z1, z2, _⟩ := hB
  have HM5 := hid (mv0 HM4.out hn3)
  have HT4 := hid (HT3.out.nu hn3)
  have HTN := hid (htn.nu hn3).any
  replace x0 := cell_mv hn3 x0 id
  replace x1 := cell_mv hn3 x1 id
  replace x2 := cell_mv hn3 x2 id
  replace y0 := cell_mv hn3 y0 id
  replace y1 := cell_mv hn3 y1 id
  clear hW hn3 htn HT3 HM4
  go_wp2_with fail
  refine Calls.mono (k_print2 HC.out _ (HG.out.nu HM5.out) _ _ _ HTN.out) ?_
  rintro e w4 ⟨rfl, hm4⟩
  have HM6 := hid (mv0 HM5.out hm4)
  have HT5 := hid (HT4.out.nu hm4)
  have HTN2 := hid (HTN.out.nu hm4)
  replace x0 := cell_mv hm4 x0 id
  replace x1 := cell_mv hm4 x1 id
  replace x2 := cell_mv hm4 x2 id
  replace y0 := cell_mv hm4 y0 id
  replace y1 := cell_mv hm4 y1 id
  replace z0 := cell_mv hm4 z0 id
  replace z1 := cell_mv hm4 z1 id
  replace z2 := cell_mv hm4 z2 id
  clear hm4 HT4 HTN HM5
  go_wp2_with fail
  refine Calls.mono (HL.out _ HM6.out _ _ _ HT5.out) ?_
  rintro e w5 ⟨hm5, v, rfl, ao, c, rfl, hrow⟩
  rcases hrow with hrow | ⟨ad, rfl, hrow⟩
  · cases hrow
  have hr2 := hrow 2 [114] rfl
  obtain ⟨g, o, sp⟩ := ad
  have hsp : sp = none := by have := World.cell?_spot (hrow 0 [112] rfl); simpa [Addr.add] using this
  subst hsp
  rw [add_at] at hr2
  have HM7 := hid (mv0 HM6.out hm5)
  have HT6 := hid (HT5.out.nu hm5)
  have HTN3 := hid (HTN2.out.nu hm5)
  replace x0 := cell_mv hm5 x0 id
  replace x1 := cell_mv hm5 x1 id
  replace x2 := cell_mv hm5 x2 id
  replace y0 := cell_mv hm5 y0 id
  replace y1 := cell_mv hm5 y1 id
  replace z0 := cell_mv hm5 z0 id
  replace z1 := cell_mv hm5 z1 id
  replace z2 := cell_mv hm5 z2 id
  have hr3 : w5.cell? ⟨g, o + 2, none⟩ = some (.string ⟨#[114]⟩) := hr2
  clear hm5 HT5 HTN2 HM6 hrow hr2
  simp only [List.length_cons, List.length_nil]
  go_wp2_with fail
  refine Calls.mono (HL1.out _ HM7.out _ _ _ HTN3.out) ?_
  rintro e w6 ⟨rfl, hm6⟩
  replace x0 := cell_mv hm6 x0 id
  replace x1 := cell_mv hm6 x1 id
  replace x2 := cell_mv hm6 x2 id
  have HM8 := hid (mv0 HM7.out hm6)
  have HT7 := hid (HT6.out.nu hm6)
  clear hm6 y0 y1 z0 z1 z2 hr3
  go_wp2_with fail
  refine Calls.mono (HL2.out _ HM8.out _ _ _ HT7.out) ?_
  rintro e w7 ⟨rfl, hm7⟩
  replace x0 := cell_mv hm7 x0 id
  replace x1 := cell_mv hm7 x1 id
  replace x2 := cell_mv hm7 x2 id
  have HM9 := hid (mv0 HM8.out hm7)
  have HT8 := hid (HT7.out.nu hm7)
  clear hm7
  go_wp2_with fail
  refine Calls.mono (HS.out _ HM9.out _ _ _ HT8.out) ?_
  rintro e w8 ⟨rfl, hm8⟩
  have HM10 := hid (mv0 HM9.out hm8)
  go_wp2_with fail
  go_ret
  exact ⟨rfl, HM10.out⟩

end Go.Proofs.YtidihaecgmbhpaaDoor
