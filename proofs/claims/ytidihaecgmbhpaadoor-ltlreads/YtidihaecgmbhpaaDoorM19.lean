/-
  QTok0, QTok, QParse.
-/
import Derived.Deep.AppendLies
import Derived.Test.YtidihaecgmbhpaaDoorM1
import Derived.Test.YtidihaecgmbhpaaDoorM17
/-
  The reference's words of a formula: what is kept between two rounds; laws on lists and worlds.
-/
set_option linter.unusedSimpArgs false
namespace Go.Proofs.YtidihaecgmbhpaaDoor
open Go.RowKit Q

def tcells (acc : List (Wd × Nat)) : List Value := acc.flatMap fun x => [.string (strOfL x.1), .int .i64 (x.2 : Int)]

theorem tcells_len (acc : List (Wd × Nat)) : (tcells acc).length = acc.length * 2 := by
  induction acc with
  | nil => rfl
  | cons a acc ih => simp only [tcells, List.flatMap_cons, List.length_append, List.length_cons, List.length_nil] at ih ⊢; omega
theorem tcells_app (acc : List (Wd × Nat)) (x : Wd × Nat) : tcells (acc ++ [x]) = tcells acc ++ [.string (strOfL x.1), .int .i64 (x.2 : Int)] := by simp [tcells]
theorem tcells_get : ∀ (acc : List (Wd × Nat)) (k : Nat) (x : Wd × Nat), acc[k]? = some x → (tcells acc)[k * 2]? = some (.string (strOfL x.1)) ∧ (tcells acc)[k * 2 + 1]? = some (.int .i64 (x.2 : Int))
  | [], k, x, h => by simp at h
  | a :: acc, 0, x, h => by simp at h; subst h; exact ⟨rfl, rfl⟩
  | a :: acc, k + 1, x, h => by
    have := tcells_get acc k x (by simpa using h)
    rw [show tcells (a :: acc) = .string (strOfL a.1) :: .int .i64 (a.2 : Int) :: tcells acc from rfl, show (k + 1) * 2 = k * 2 + 1 + 1 by omega]
    exact this

def cat (acc : List (Wd × Nat)) : Except Nat (List (Wd × Nat)) → Except Nat (List (Wd × Nat))
  | .ok l => .ok (acc ++ l)
  | .error e => .error e

def frs : List Wd := [[47, 92], [92, 47], [97, 108, 119, 97, 121, 115], [101, 118, 101, 110, 116, 117, 97, 108, 108, 121], [110, 101, 120, 116], [117, 110, 116, 105, 108], [114, 101, 108, 101, 97, 115, 101], [119, 101, 97, 107, 117, 110, 116, 105, 108]]
def tos : List Wd := [[38, 38], [124, 124], [91, 93], [60, 62], [88], [85], [86], [87]]

/-- Between two rounds. -/
structure TMid (s : Wd) (w wr : World) (v : Value) (p : Nat) (acc : List (Wd × Nat)) (Z : Except Nat (List (Wd × Nat))) : Prop where
  row : wr.ownsRow (w.heap.size + 3) 51 2 v acc.length (tcells acc)
  nu : Nu w wr
  sz : w.heap.size + 3 ≤ wr.heap.size
  t1 : ∀ (i : Nat) x, signs[i]? = some x → wr.cell? ⟨w.heap.size, i, none⟩ = some (.string (strOfL x))
  t2 : ∀ (i : Nat) x, frs[i]? = some x → wr.cell? ⟨w.heap.size + 1, i, none⟩ = some (.string (strOfL x))
  t3 : ∀ (i : Nat) x, tos[i]? = some x → wr.cell? ⟨w.heap.size + 1 + 1, i, none⟩ = some (.string (strOfL x))
  hi : p ≤ s.length
  le : acc.length ≤ p
  spec : ∃ g, s.length - p < g ∧ cat acc (tks g p (s.drop p)) = Z

theorem row_nu {w w' : World} {base : Nat} {e : TypeId} {size : Nat} {v : Value} {n : Nat} {xs : List Value} (hr : w.ownsRow base e size v n xs) (h : Nu w w') : w'.ownsRow base e size v n xs := by
  refine ⟨hr.1, ?_⟩
  rcases hr.2 with hn' | ⟨g, cap, cur, rfl, hb, hgg, rest⟩
  · exact .inl hn'
  · exact .inr ⟨g, cap, cur, rfl, hb, h.heap hgg id, rest⟩

theorem TMid.go {s : Wd} {w wr wr' : World} {v : Value} {p : Nat} {acc : List (Wd × Nat)} {Z : Except Nat (List (Wd × Nat))} (h : TMid s w wr v p acc Z) (hm : Nu wr wr') : TMid s w wr' v p acc Z :=
  ⟨row_nu h.row hm, mv0 h.nu hm, Nat.le_trans h.sz hm.size, fun i x hx => cell_mv hm (h.t1 i x hx) id, fun i x hx => cell_mv hm (h.t2 i x hx) id, fun i x hx => cell_mv hm (h.t3 i x hx) id, h.hi, h.le, h.spec⟩

theorem drop_cons {s : Wd} {p : Nat} {c : UInt8} (h : s[p]? = some c) : s.drop p = c :: s.drop (p + 1) := by
  obtain ⟨hp, rfl⟩ := List.getElem?_eq_some_iff.1 h
  exact List.drop_eq_getElem_cons hp

/-- A blank is passed over. -/
theorem TMid.blank {s : Wd} {w wr : World} {v : Value} {p : Nat} {acc : List (Wd × Nat)} {Z : Except Nat (List (Wd × Nat))} {c : UInt8} (h : TMid s w wr v p acc Z) (hc : s[p]? = some c) (hb : isBl c = true) : TMid s w wr v (p + 1) acc Z := by
  have hp : p < s.length := (List.getElem?_eq_some_iff.1 hc).1
  obtain ⟨g, hg, hz⟩ := h.spec
  refine ⟨h.row, h.nu, h.sz, h.t1, h.t2, h.t3, hp, by have := h.le; omega, ?_⟩
  rw [drop_cons hc] at hz
  cases g with
  | zero => omega
  | succ g =>
    rw [tks, if_pos hb] at hz
    exact ⟨g, by omega, hz⟩

theorem TMid.none {s : Wd} {w wr : World} {v : Value} {p : Nat} {acc : List (Wd × Nat)} {Z : Except Nat (List (Wd × Nat))} {c : UInt8} (h : TMid s w wr v p acc Z) (hc : s[p]? = some c) (hb : isBl c = false) (ho : one (s.drop p) = none) : Z = .error p := by
  obtain ⟨g, hg, hz⟩ := h.spec
  have hp : p < s.length := (List.getElem?_eq_some_iff.1 hc).1
  rw [drop_cons hc] at hz ho
  cases g with
  | zero => omega
  | succ g =>
    rw [tks, if_neg (by simp [hb]), ho] at hz
    exact hz.symm

/-- A word is put behind the others. -/
theorem TMid.word {s : Wd} {w wr wr' : World} {v v' : Value} {p : Nat} {acc : List (Wd × Nat)} {Z : Except Nat (List (Wd × Nat))} {c : UInt8} {u : Wd} (h : TMid s w wr v p acc Z) (hc : s[p]? = some c) (hb : isBl c = false) (ho : one (s.drop p) = some u)
    (hrow : wr'.ownsRow (w.heap.size + 3) 51 2 v' (acc.length + 1) (tcells acc ++ [.string (strOfL (canon u)), .int .i64 (p : Int)])) (hm : Mv (fun x => w.heap.size + 3 ≤ x) wr wr') : TMid s w wr' v' (p + u.length) (acc ++ [(canon u, p)]) Z := by
  obtain ⟨g, hg, hz⟩ := h.spec
  have hp : p < s.length := (List.getElem?_eq_some_iff.1 hc).1
  have hpre := one_pre ho
  have hul := hpre.1.length_le
  rw [List.length_drop] at hul
  have hn : Nu w wr' := h.nu.trans hm (fun x hx => .inr (by omega))
  refine ⟨by rw [tcells_app]; simpa using hrow, hn, Nat.le_trans h.sz hm.size, fun i x hx => cell_mv hm (h.t1 i x hx) (by omega), fun i x hx => cell_mv hm (h.t2 i x hx) (by omega), fun i x hx => cell_mv hm (h.t3 i x hx) (by omega), by omega, by have := h.le; simp; omega, ?_⟩
  rw [drop_cons hc] at hz ho
  cases g with
  | zero => omega
  | succ g =>
    rw [tks, if_neg (by simp [hb]), ho] at hz
    simp only at hz
    refine ⟨g, by omega, ?_⟩
    have hd : (c :: s.drop (p + 1)).drop u.length = s.drop (p + u.length) := by rw [← drop_cons hc, List.drop_drop]
    rw [hd] at hz
    rw [← hz]
    cases tks g (p + u.length) (s.drop (p + u.length)) with
    | error e => rfl
    | ok l => simp [cat]

theorem TMid.done {s : Wd} {w wr : World} {v : Value} {p : Nat} {acc : List (Wd × Nat)} {Z : Except Nat (List (Wd × Nat))} (h : TMid s w wr v p acc Z) (hp : s.length ≤ p) : Z = .ok acc := by
  obtain ⟨g, hg, hz⟩ := h.spec
  rw [List.drop_eq_nil_of_le hp] at hz
  cases g with
  | zero => omega
  | succ g => rw [tks] at hz; rw [← hz]; simp [cat]

theorem pre_iff {u l : Wd} : u.isPrefixOf l = true ↔ u.length ≤ l.length ∧ l.take u.length = u := by
  rw [List.isPrefixOf_iff_prefix]
  constructor
  · intro h; exact ⟨h.length_le, (List.prefix_iff_eq_take.1 h).symm⟩
  · intro h; rw [← h.2]; exact List.take_prefix _ _

/-- The first of the signs. -/
theorem sgn_at {l : Wd} {i : Nat} {u : Wd} (hu : signs[i]? = some u) (hp : u.isPrefixOf l = true) (hno : ∀ (j : Nat) x, j < i → signs[j]? = some x → x.isPrefixOf l = false) : sgn l = some u := by
  unfold sgn
  rw [List.find?_eq_some_iff_getElem]
  obtain ⟨hi, e⟩ := List.getElem?_eq_some_iff.1 hu
  exact ⟨hp, i, hi, e, fun j hj => by rw [hno j _ hj (List.getElem?_eq_getElem (by omega))]; rfl⟩
theorem sgn_none {l : Wd} (hno : ∀ (j : Nat) x, signs[j]? = some x → x.isPrefixOf l = false) : sgn l = none := by
  unfold sgn
  rw [List.find?_eq_none]
  intro x hx
  obtain ⟨j, hj, rfl⟩ := List.getElem_of_mem hx
  rw [hno j _ (List.getElem?_eq_getElem hj)]
  simp

theorem canon_in {i : Nat} {W : Wd} (h : frs[i]? = some W) : tos[i]? = some (canon W) := by
  have hi : i < 8 := (List.getElem?_eq_some_iff.1 h).1
  have : i = 0 ∨ i = 1 ∨ i = 2 ∨ i = 3 ∨ i = 4 ∨ i = 5 ∨ i = 6 ∨ i = 7 := by omega
  rcases this with rfl | rfl | rfl | rfl | rfl | rfl | rfl | rfl <;> (cases h; rfl)
theorem canon_out {W : Wd} (h : ∀ (j : Nat), j < 8 → frs[j]? ≠ some W) : canon W = W := by
  have h0 := h 0 (by omega)
  have h1 := h 1 (by omega)
  have h2 := h 2 (by omega)
  have h3 := h 3 (by omega)
  have h4 := h 4 (by omega)
  have h5 := h 5 (by omega)
  have h6 := h 6 (by omega)
  have h7 := h 7 (by omega)
  simp only [frs, List.getElem?_cons_zero, List.getElem?_cons_succ, ne_eq, Option.some.injEq] at h0 h1 h2 h3 h4 h5 h6 h7
  unfold canon
  rw [if_neg (fun e => h0 e.symm), if_neg (fun e => h1 e.symm), if_neg (fun e => h2 e.symm), if_neg (fun e => h3 e.symm), if_neg (fun e => h4 e.symm), if_neg (fun e => h5 e.symm), if_neg (fun e => h6 e.symm), if_neg (fun e => h7 e.symm)]

/-- One spelling, as far as the table has been gone through. -/
def CurIs (i : Nat) (W cur : Wd) : Prop := (cur = W ∧ ∀ (j : Nat), j < i → frs[j]? ≠ some W) ∨ cur = canon W
theorem CurIs.next {i : Nat} {W cur x : Wd} (h : CurIs i W cur) (hx : frs[i]? = some x) (hne : x ≠ W) : CurIs (i + 1) W cur := by
  rcases h with ⟨h1, h2⟩ | h
  · refine .inl ⟨h1, fun j hj e => ?_⟩
    by_cases hji : j = i
    · rw [hji, hx] at e; injection e with e; exact hne e
    · exact h2 j (by omega) e
  · exact .inr h
theorem CurIs.done {W cur : Wd} (h : CurIs 8 W cur) : cur = canon W := by
  rcases h with ⟨h1, h2⟩ | h
  · rw [h1, canon_out h2]
  · exact h

theorem take_run {s : Wd} {p n : Nat} (hpn : p ≤ n) (_ : n ≤ s.length) (hL : ∀ (j : Nat) d, p ≤ j → j < n → s[j]? = some d → isLD d = true) (hX : ∀ d, s[n]? = some d → isLD d = false) : (s.drop p).takeWhile isLD = (s.drop p).take (n - p) := by
  have h1 : s.drop p = (s.drop p).take (n - p) ++ s.drop n := by
    have := List.take_append_drop (n - p) (s.drop p)
    rw [List.drop_drop, show p + (n - p) = n by omega] at this
    exact this.symm
  have h2 : ((s.drop p).take (n - p)).all isLD = true := by
    rw [List.all_eq_true]
    intro c hc
    obtain ⟨j, hj, rfl⟩ := List.getElem_of_mem hc
    have hj' : j < n - p := by rw [List.length_take] at hj; omega
    refine hL (p + j) _ (by omega) (by omega) ?_
    rw [List.getElem_take, List.getElem_drop, List.getElem?_eq_getElem]
  have h3 := takeWhile_sep (p := isLD) (r := s.drop n) h2 (fun c q e => hX c (by have := congrArg (fun l => l[0]?) e; simpa using this))
  rw [← h1] at h3
  exact h3

end Go.Proofs.YtidihaecgmbhpaaDoor
/-
  The reference's words of a formula.
-/
set_option linter.unusedSimpArgs false
namespace Go.Proofs.YtidihaecgmbhpaaDoor
open Go.RowKit Q

/-- What Tokens hands back. -/
def TokOut (w : World) (Z : Except Nat (List (Wd × Nat))) (e : Ending) (w' : World) : Prop :=
  Nu w w' ∧ match Z with
  | .ok l => ∃ ao cap, e = .returned (.tuple #[.slice ao l.length cap, .int .i64 (-1)]) ∧ (∀ tb, ao = some ⟨tb, 0, none⟩ → tb < w'.heap.size) ∧ ∀ (k : Nat) x, l[k]? = some x → ∃ tb, ao = some ⟨tb, 0, none⟩ ∧ w.heap.size ≤ tb ∧ w'.cell? ⟨tb, k * 2, none⟩ = some (.string (strOfL x.1)) ∧ w'.cell? ⟨tb, k * 2 + 1, none⟩ = some (.int .i64 (x.2 : Int))
  | .error p => e = .returned (.tuple #[.slice none 0 0, .int .i64 (p : Int)])

theorem tok_start (s : Wd) (w : World) (t : TypeId) : TMid s w (((w.alloc (.cells (signs.map fun x => Value.string (strOfL x)).toArray t)).alloc (.cells (frs.map fun x => Value.string (strOfL x)).toArray t)).alloc (.cells (tos.map fun x => Value.string (strOfL x)).toArray t)) (.slice none 0 0) 0 [] (tokens s) := by
  obtain ⟨A, hA⟩ : ∃ A, w.alloc (.cells (signs.map fun x => Value.string (strOfL x)).toArray t) = A := ⟨_, rfl⟩
  obtain ⟨B', hB'⟩ : ∃ B', A.alloc (.cells (frs.map fun x => Value.string (strOfL x)).toArray t) = B' := ⟨_, rfl⟩
  have h1 := heap_alloc_new w (.cells (signs.map fun x => Value.string (strOfL x)).toArray t)
  have h2 := heap_alloc_new A (.cells (frs.map fun x => Value.string (strOfL x)).toArray t)
  have h3 := heap_alloc_new B' (.cells (tos.map fun x => Value.string (strOfL x)).toArray t)
  have s1 : A.heap.size = w.heap.size + 1 := by rw [← hA]; simp
  have s2 : B'.heap.size = w.heap.size + 1 + 1 := by rw [← hB']; simp [s1]
  rw [hA] at h1
  rw [hB', s1] at h2
  rw [s2] at h3
  rw [hA, hB']
  have nAB : Nu A B' := by rw [← hB']; exact Mv.alloc _ _ _
  have nw : Nu w A := by rw [← hA]; exact Mv.alloc _ _ _
  have k1 := (Mv.alloc (fun _ => False) B' (.cells (tos.map fun x => Value.string (strOfL x)).toArray t)).heap (nAB.heap h1 id) id
  have k2 := (Mv.alloc (fun _ => False) B' (.cells (tos.map fun x => Value.string (strOfL x)).toArray t)).heap h2 id
  refine ⟨World.ownsRow_nil _ _ _ _, mv0 (mv0 nw nAB) (Mv.alloc _ _ _), by simp; omega, fun i x hx => by rw [cell_blk k1]; simp [hx], fun i x hx => by rw [cell_blk k2]; simp [hx], fun i x hx => by rw [cell_blk h3]; simp [hx], Nat.zero_le _, Nat.zero_le _, s.length + 1, by omega, ?_⟩
  show cat [] (tks (s.length + 1) 0 s) = tokens s
  unfold tokens
  cases tks (s.length + 1) 0 s <;> rfl

theorem tok_form {w : World} {base : Nat} {e : TypeId} {size : Nat} {v : Value} {n : Nat} {xs : List Value} (h : w.ownsRow base e size v n xs) : ∃ ao cap, v = .slice ao n cap := by
  rcases h.2 with ⟨rfl, rfl⟩ | ⟨g, cap, cur, rfl, _⟩
  · exact ⟨none, 0, rfl⟩
  · exact ⟨_, cap, rfl⟩

theorem info_parts {P : Program} {e : TypeId} {z : Value} {n b : Nat} (h : (P.info? e).map (fun i => (i.zero, i.size, i.bytes)) = some (some z, n, b)) : ∃ i, P.info? e = some i ∧ i.zero = some z ∧ i.size = n ∧ i.bytes = b := by
  cases hi : P.info? e with
  | none => rw [hi] at h; cases h
  | some i => rw [hi] at h; simp at h; exact ⟨i, rfl, h.1, h.2.1, h.2.2⟩

theorem own_base {w : World} {base : Nat} {e : TypeId} {size : Nat} {v : Value} {n : Nat} {xs : List Value} (h : w.ownsRow base e size v n xs) {g : Nat} (hg : v.ownBlock = some g) : base ≤ g := by
  rcases h.2 with ⟨rfl, _⟩ | ⟨g', cap, cur, rfl, hb, _⟩
  · simp [Value.ownBlock] at hg
  · simp [Value.ownBlock] at hg; omega

theorem own_lt {w : World} {base : Nat} {e : TypeId} {size : Nat} {v : Value} {n : Nat} {xs : List Value} (h : w.ownsRow base e size v n xs) {g : Nat} (hg : v.ownBlock = some g) : g < w.heap.size := by
  rcases h.2 with ⟨rfl, _⟩ | ⟨g', cap, cur, rfl, hb, hgg, _⟩
  · simp [Value.ownBlock] at hg
  · simp [Value.ownBlock] at hg; subst hg; exact lt_of_block hgg

theorem infoTok : (Tryd.prog.info? 51).map (fun i => (i.zero, i.size, i.bytes)) = some (some (.agg #[.string ⟨#[]⟩, .int .i64 0]), 2, 24) := by kernel_rfl

set_option maxRecDepth 100000 in
set_option maxHeartbeats 16000000 in
theorem Tokens_any (s : Wd) (hs : s.length ≤ 100000) (w : World) : Calls Tryd.prog 20 #[.string (strOfL s)] w (TokOut w (tokens s)) := by
  obtain ⟨i0, hi0, hz0, hz1, hz2⟩ := info_parts infoTok
  have HI0 : Hid (Tryd.prog.info? 51 = some i0 ∧ i0.zero = some (.agg #[.string ⟨#[]⟩, .int .i64 0]) ∧ i0.size = 2 ∧ i0.bytes = 24) := ⟨hi0, hz0, hz1, hz2⟩
  clear hi0 hz0 hz1 hz2
  have hsz : (strOfL s).size = s.length := by simp [strOfL, ByteArray.size]
  have HX := hid (fun a b => ext_str s a b)
  have HG : Hid (∀ i (hi : i < (strOfL s).size), s[i]? = some ((strOfL s)[i]'hi)) := fun i hi => by
    have : i < s.length := by omega
    rw [List.getElem?_eq_getElem this]
    rfl
  obtain ⟨Z, hZ⟩ : ∃ Z, tokens s = Z := ⟨_, rfl⟩
  have HT0 := hid (tok_start s w 9)
  rw [hZ] at HT0 ⊢
  generalize hS : strOfL s = S at *
  have hS1 : S.size ≤ 100000 := by omega
  have HSZ := hid hsz
  obtain ⟨O, hO⟩ : ∃ O, TokOut w Z = O := ⟨_, rfl⟩
  rw [hO]
  have HO := hid hO
  clear hZ hS hsz hs hO
  go_enter Tryd.func20, Tryd.ntmps20
  go_wp2_with fail
  go_loopw [7, 8] (fun v pv wr => ∃ (p : Nat) (acc : List (Wd × Nat)), pv = .int .i64 (p : Int) ∧ Hid (TMid s w wr v p acc Z)) (fun _ pv _ => S.size - (intOf pv).toNat)
  case atStart => exact ⟨0, [], rfl, HT0.out⟩
  case round =>
    obtain ⟨p, acc, rfl, HM⟩ := hrel
    obtain ⟨ao, cap, rfl⟩ := tok_form HM.out.row
    by_cases hp : p < S.size
    case neg =>
      have hp' : ¬ (p : Int) < (S.size : Int) := by omega
      go_wp2_with fail
      rw [← HO.out]
      refine ⟨HM.out.nu, ?_⟩
      rw [HM.out.done (by have := HSZ.out; omega)]
      refine ⟨ao, cap, rfl, fun tb htb => own_lt HM.out.row (by rw [htb]; rfl), fun k x hx => ?_⟩
      have hlt := (List.getElem?_eq_some_iff.1 hx).1
      obtain ⟨g, cap', hv, hb, _⟩ := HM.out.row.form (by omega)
      have hao : ao = some ⟨g, 0, none⟩ := by injection hv
      obtain ⟨x0, x1⟩ := tcells_get acc k x hx
      have c0 := HM.out.row.cells (g := g) (by rw [hv]; rfl) _ _ x0
      have c1 := HM.out.row.cells (g := g) (by rw [hv]; rfl) _ _ x1
      rw [Addr.add_lit] at c0 c1
      exact ⟨g, hao, by omega, by simpa using c0, by simpa using c1⟩
    have hp' : (p : Int) < (S.size : Int) := by omega
    have HC := hid (HG.out p hp)
    generalize hc : S[p] = c at HC
    have HBl := hid (blank_any c)
    cases hb : isBl c with
    | true =>
      rw [hb] at HBl
      have HM1 := hid (HM.out.blank HC.out hb)
      clear hb
      go_wp2_with fail
      refine Calls.mono (HBl.out _) ?_
      rintro e w1 ⟨rfl, rfl⟩
      go_wp2_with fail
      go_roundw
      case rel => exact ⟨p + 1, acc, by go_num, HM1⟩
      case measure => simp [intOf]; omega
    | false =>
      rw [hb] at HBl
      have HB := hid hb
      clear hb
      go_wp2_with fail
      refine Calls.mono (HBl.out _) ?_
      rintro e w1 ⟨rfl, rfl⟩
      go_wp2_with fail
      go_loopw [10, 11] (fun uv iv wx => ∃ i : Nat, i ≤ 11 ∧ iv = .int .i64 (i : Int) ∧ Hid (TMid s w wx (.slice ao acc.length cap) p acc Z) ∧ ∃ u, uv = .string (strOfL u) ∧
          Hid ((u = [] ∧ ∀ (j : Nat) x, j < i → signs[j]? = some x → x.isPrefixOf (s.drop p) = false) ∨ (u ≠ [] ∧ sgn (s.drop p) = some u))) (fun _ iv _ => 11 - (intOf iv).toNat)
      case atStart => exact ⟨0, Nat.zero_le _, rfl, HM, [], rfl, .inl ⟨rfl, fun j x hj => absurd hj (Nat.not_lt_zero _)⟩⟩
      case round =>
        obtain ⟨i, hi, rfl, HMx, u, rfl, HU⟩ := hrel
        by_cases hu : u = []
        · subst hu
          have hz : ((strOfL []).toList == []) = true := by rw [tl_eq]; rfl
          have HNo : Hid (∀ (j : Nat) x, j < i → signs[j]? = some x → x.isPrefixOf (s.drop p) = false) := by
            rcases HU.out with ⟨_, h⟩ | ⟨h, _⟩
            · exact h
            · exact absurd rfl h
          by_cases hj : i < 11
          · have hj' : (i : Int) < 11 := by omega
            obtain ⟨x, hx⟩ : ∃ x, signs[i]? = some x := ⟨_, List.getElem?_eq_getElem (by exact hj)⟩
            have hcell := HMx.out.t1 i x hx
            have HXx := hid hx
            have hxl : (strOfL x).size = x.length := by simp [strOfL, ByteArray.size]
            have hx3 : x.length ≤ 3 := by
              have : ∀ y ∈ signs, y.length ≤ 3 := by decide
              exact this x (List.mem_of_getElem? hx)
            have hsz := HSZ.out
            clear hx
            by_cases hlen : x.length ≤ S.size - p
            · have hlen' : ((strOfL x).size : Int) ≤ (S.size : Int) - (p : Int) := by omega
              have hext : S.extract p (p + x.length) = strOfL ((s.drop p).take x.length) := by rw [HX.out]; congr 1; rw [List.drop_take]; congr 1; omega
              have hpe : p + x.length ≤ S.size := by omega
              by_cases heq : (s.drop p).take x.length = x
              · have hsg : sgn (s.drop p) = some x := sgn_at HXx.out (pre_iff.2 ⟨by rw [List.length_drop]; omega, heq⟩) HNo.out
                have hxne : x ≠ [] := by
                  have : ∀ y ∈ signs, y ≠ [] := by decide
                  exact this x (List.mem_of_getElem? HXx.out)
                have HSG := hid hsg
                have HXN := hid hxne
                rw [heq] at hext
                rw [← hxl] at hext hpe
                have hbeq : ((strOfL x).toList == (strOfL x).toList) = true := by simp
                have hpe' : (p : Int) + ((strOfL x).size : Int) ≤ (S.size : Int) := by omega
                have hx0 : (0 : Int) ≤ ((strOfL x).size : Int) := by omega
                clear hsg hxne heq hxl hx3 hsz hlen
                go_wp2_with fail
                go_quiet (fail)
                go_wp2_with fail
                go_roundw
                case rel => exact ⟨i + 1, hj, by go_num, HMx.out.go (Mv.drewN _ _ _), x, rfl, .inr ⟨HXN.out, HSG.out⟩⟩
                case measure => simp [intOf]; omega
              · have HF1 : Hid (∀ (j : Nat) y, j < i + 1 → signs[j]? = some y → y.isPrefixOf (s.drop p) = false) := fun j y hj hy => by
                  by_cases e : j = i
                  · rw [e, HXx.out] at hy; cases hy
                    cases hpx : x.isPrefixOf (s.drop p) with
                    | false => rfl
                    | true => exact absurd (pre_iff.1 hpx).2 heq
                  · exact HNo.out j y (by omega) hy
                have hbeq : ((strOfL ((s.drop p).take x.length)).toList == (strOfL x).toList) = false := by rw [tl_eq, strOfL_toList]; exact decide_eq_false heq
                generalize strOfL ((s.drop p).take x.length) = Y at *
                rw [← hxl] at hext hpe
                have hpe' : (p : Int) + ((strOfL x).size : Int) ≤ (S.size : Int) := by omega
                have hx0 : (0 : Int) ≤ ((strOfL x).size : Int) := by omega
                clear heq hxl hx3 hsz hlen
                go_wp2_with fail
                go_quiet (fail)
                go_wp2_with fail
                go_roundw
                case rel => exact ⟨i + 1, hj, by go_num, HMx.out.go (Mv.drewN _ _ _), [], rfl, .inl ⟨rfl, HF1.out⟩⟩
                case measure => simp [intOf]; omega
            · have hlen' : decide (((strOfL x).size : Int) ≤ (S.size : Int) - (p : Int)) = false := by simp; omega
              have HF1 : Hid (∀ (j : Nat) y, j < i + 1 → signs[j]? = some y → y.isPrefixOf (s.drop p) = false) := fun j y hj hy => by
                by_cases e : j = i
                · rw [e, HXx.out] at hy; cases hy
                  cases hpx : x.isPrefixOf (s.drop p) with
                  | false => rfl
                  | true => have := (pre_iff.1 hpx).1; rw [List.length_drop] at this; omega
                · exact HNo.out j y (by omega) hy
              generalize strOfL x = X at *
              clear hxl hx3 hsz hlen
              go_wp2_with fail
              go_quiet (fail)
              go_wp2_with fail
              go_roundw
              case rel => exact ⟨i + 1, hj, by go_num, HMx.out.go (Mv.drewN _ _ _), [], rfl, .inl ⟨rfl, HF1.out⟩⟩
              case measure => simp [intOf]; omega
          · have hj' : ¬ (i : Int) < 11 := by omega
            have HSN : Hid (sgn (s.drop p) = none) := sgn_none fun j x hx => HNo.out j x (by have := (List.getElem?_eq_some_iff.1 hx).1; have : signs.length = 11 := rfl; omega) hx
            have HLet := hid (letter_any c)
            cases hlc : isLet c with
            | false =>
              rw [hlc] at HLet
              have HZ : Hid (Z = .error p) := HMx.out.none HC.out HB.out (by
                unfold one
                rw [HSN.out, drop_cons HC.out]
                simp [hlc])
              clear hlc
              go_wp2_with fail
              refine Calls.mono (HLet.out _) ?_
              rintro e w1 ⟨rfl, rfl⟩
              go_wp2_with fail
              rw [← HO.out, HZ.out]
              exact ⟨HMx.out.nu, rfl⟩
            | true =>
              rw [hlc] at HLet
              have HLC := hid hlc
              clear hlc
              go_wp2_with fail
              refine Calls.mono (HLet.out _) ?_
              rintro e w1 ⟨rfl, rfl⟩
              go_wp2_with fail
              go_loop [12] (fun nv => ∃ n : Nat, p ≤ n ∧ n ≤ S.size ∧ nv = .int .i64 (n : Int) ∧ Hid (∀ (j : Nat) d, p ≤ j → j < n → s[j]? = some d → isLD d = true)) (fun nv => S.size - (intOf nv).toNat)
              case atStart => exact ⟨p, Nat.le_refl _, by omega, rfl, fun j d h1 h2 => absurd h2 (by omega)⟩
              case round =>
                obtain ⟨n, hpn, hnS, rfl, HL⟩ := hrel
                have hsz := HSZ.out
                have HSZn := hid hsz
                by_cases hgo : n < S.size ∧ ∀ d, s[n]? = some d → isLD d = true
                · obtain ⟨hn, hld⟩ := hgo
                  have HCn := hid (HG.out n hn)
                  generalize hcn : S[n] = d at HCn
                  have hld' := hld d HCn.out
                  have HL1 : Hid (∀ (j : Nat) d, p ≤ j → j < n + 1 → s[j]? = some d → isLD d = true) := fun j e h1 h2 h3 => by
                    by_cases hjn : j = n
                    · rw [hjn, HCn.out] at h3; cases h3; exact hld'
                    · exact HL.out j e h1 (by omega) h3
                  have HLd := hid (letter_any d)
                  have HDd := hid (digit_any d)
                  have hn' : (n : Int) < (S.size : Int) := by omega
                  cases hl : isLet d with
                  | true =>
                    rw [hl] at HLd
                    clear hld hld' hl hsz
                    go_wp2_with fail
                    refine Calls.mono (HLd.out _) ?_
                    rintro e w1 ⟨rfl, rfl⟩
                    go_wp2_with fail
                    go_round
                    case rel => exact ⟨n + 1, by omega, hn, by go_num, HL1⟩
                    case measure => simp [intOf]; omega
                  | false =>
                    have hdg : isDig d = true := by unfold isLD at hld'; rw [hl] at hld'; simpa using hld'
                    rw [hl] at HLd
                    rw [hdg] at HDd
                    clear hld hld' hl hdg hsz
                    go_wp2_with fail
                    refine Calls.mono (HLd.out _) ?_
                    rintro e w1 ⟨rfl, rfl⟩
                    go_wp2_with fail
                    refine Calls.mono (HDd.out _) ?_
                    rintro e w1 ⟨rfl, rfl⟩
                    go_wp2_with fail
                    go_round
                    case rel => exact ⟨n + 1, by omega, hn, by go_num, HL1⟩
                    case measure => simp [intOf]; omega
                · have HTW : Hid ((s.drop p).takeWhile isLD = (s.drop p).take (n - p)) := take_run (by omega) (by omega) HL.out (fun d hd => by
                    cases hl : isLD d with
                    | false => rfl
                    | true =>
                      refine absurd ⟨?_, fun e he => ?_⟩ hgo
                      · have := (List.getElem?_eq_some_iff.1 hd).1; omega
                      · rw [hd] at he; cases he; exact hl)
                  obtain ⟨u, hu⟩ : ∃ u, (s.drop p).take (n - p) = u := ⟨_, rfl⟩
                  have hul : u.length = n - p := by rw [← hu, List.length_take, List.length_drop]; omega
                  have hext : S.extract p n = strOfL u := by rw [HX.out, ← hu]; congr 1; rw [List.drop_take]
                  have hune : u ≠ [] := by
                    rw [← hu, ← HTW.out, drop_cons HC.out]
                    have : isLD c = true := by unfold isLD; rw [HLC.out]; rfl
                    simp [List.takeWhile_cons, this]
                  have hz2 : ((strOfL u).toList == []) = false := by rw [tl_eq]; exact decide_eq_false hune
                  have HON : Hid (one (s.drop p) = if n - p ≤ 32 then some u else none) := by
                    show _ = _
                    have h1 : one (s.drop p) = if isLet c && decide (((s.drop p).takeWhile isLD).length ≤ 32) then some ((s.drop p).takeWhile isLD) else none := by
                      unfold one; rw [HSN.out, drop_cons HC.out]
                    rw [h1, HTW.out, hu, HLC.out, hul]
                    simp
                  have husz : (strOfL u).size = u.length := by simp [strOfL, ByteArray.size]
                  have HUZ := hid husz
                  have hexit : (∃ d, n < S.size ∧ s[n]? = some d ∧ isLD d = false) ∨ n = S.size := by
                    by_cases hn : n < S.size
                    · left
                      refine ⟨s[n]'(by omega), hn, List.getElem?_eq_getElem _, ?_⟩
                      cases hl : isLD (s[n]'(by omega)) with
                      | false => rfl
                      | true => exact absurd ⟨hn, fun e he => by rw [List.getElem?_eq_getElem (by omega)] at he; cases he; exact hl⟩ hgo
                    · exact .inr (by omega)
                  by_cases h32 : n - p ≤ 32
                  · have h32' : (n : Int) - (p : Int) ≤ 32 := by omega
                    have HONE : Hid (one (s.drop p) = some u) := by show _ = _; rw [HON.out, if_pos h32]
                    have husb : (strOfL u).size ≤ 32 := by omega
                    have hpn' : (p : Int) ≤ (n : Int) := by omega
                    have hnS' : (n : Int) ≤ (S.size : Int) := by omega
                    clear HON HTW hu hul hune husz hgo hsz h32
                    rcases hexit with ⟨d, hn, hd, hld⟩ | hn
                    · have HCn := hid (HG.out n hn)
                      generalize hcn : S[n] = d' at HCn
                      have hdd : d' = d := by have := HCn.out; rw [hd] at this; injection this with this; exact this.symm
                      subst hdd
                      have HLd := hid (letter_any d')
                      have HDd := hid (digit_any d')
                      have hl : isLet d' = false ∧ isDig d' = false := by unfold isLD at hld; simpa using hld
                      rw [hl.1] at HLd
                      rw [hl.2] at HDd
                      have hn' : (n : Int) < (S.size : Int) := by omega
                      clear hl hld hd
                      go_wp2_with fail
                      refine Calls.mono (HLd.out _) ?_
                      rintro e w1 ⟨rfl, rfl⟩
                      go_wp2_with fail
                      refine Calls.mono (HDd.out _) ?_
                      rintro e w1 ⟨rfl, rfl⟩
                      obtain ⟨wrO, hwrO⟩ : ∃ wrO, wrO = w1 := ⟨_, rfl⟩
                      subst hwrO
                      obtain ⟨W13, hW13⟩ : ∃ W13, wrO.alloc (.cells #[.string (strOfL u), .int .i64 (p : Int)] 51) = W13 := ⟨_, rfl⟩
                      go_upto_region 25 with fail
                      have hn13 : Nu wrO W13 := by rw [← hW13]; exact Mv.alloc _ _ _
                      have hb13 : W13.heap[wrO.heap.size]? = some (.cells #[.string (strOfL u), .int .i64 (p : Int)] 51 (0, 0)) := by rw [← hW13]; exact heap_alloc_new wrO _
                      have HN13 := hid hn13
                      have HB13 := hid hb13
                      clear hW13 hn13 hb13
                      go_wp2_with fail
                      go_loopw [14] (fun iv wt => ∃ q : Nat, q ≤ 8 ∧ iv = .int .i64 (q : Int) ∧ Hid (Nu wrO wt) ∧ ∃ cur, Hid (CurIs q u cur) ∧ Hid (wt.heap[wrO.heap.size]? = some (.cells #[.string (strOfL cur), .int .i64 (p : Int)] 51 (0, 0)))) (fun iv _ => 8 - (intOf iv).toNat)
                      case atStart => exact ⟨0, Nat.zero_le _, rfl, HN13, u, .inl ⟨rfl, fun j hj => absurd hj (Nat.not_lt_zero _)⟩, HB13⟩
                      case round =>
                        obtain ⟨q, hq, rfl, HNt, cur, HCu, HBk⟩ := hrel
                        by_cases hq8 : q < 8
                        · have hq8' : (q : Int) < 8 := by omega
                          obtain ⟨x, hx⟩ : ∃ x, frs[q]? = some x := ⟨_, List.getElem?_eq_getElem (by exact hq8)⟩
                          have hf := (HMx.out.go HNt.out).t2 q x hx
                          by_cases hxe : x = u
                          · subst hxe
                            have ht := (HMx.out.go HNt.out).t3 q _ (canon_in hx)
                            have b0 : wr.cell? ⟨wrO.heap.size, 0, none⟩ = some (.string (strOfL cur)) := by rw [cell_blk HBk.out]; rfl
                            have g0 : wr.frozen? ⟨wrO.heap.size, 0, none⟩ = false := free_blk HBk.out 0
                            clear hx
                            go_wp2_with fail
                            go_roundw
                            case rel => exact ⟨q + 1, hq8, by go_num, HNt.out.trans (Mv.setCell wr ⟨wrO.heap.size, 0, none⟩ _) (fun y hy => .inr (Nat.le_of_eq hy.symm)), canon x, .inr rfl, by rw [setCell_blk HBk.out]; exact rfl⟩
                            case measure => simp [intOf]; omega
                          · have he' : ((strOfL x).toList == (strOfL u).toList) = false := by rw [tl_eq, strOfL_toList]; exact decide_eq_false hxe
                            have HCn := hid (HCu.out.next hx hxe)
                            clear hx hxe
                            go_wp2_with fail
                            go_roundw
                            case rel => exact ⟨q + 1, hq8, by go_num, HNt, cur, HCn, HBk⟩
                            case measure => simp [intOf]; omega
                        · have hq8' : ¬ (q : Int) < 8 := by omega
                          have hq88 : q = 8 := by omega
                          subst hq88
                          have hcc := HCu.out.done
                          subst hcc
                          have b0 : wr.cell? ⟨wrO.heap.size, 0, none⟩ = some (.string (strOfL (canon u))) := by rw [cell_blk HBk.out]; rfl
                          have b1 : wr.cell? ⟨wrO.heap.size, 1, none⟩ = some (.int .i64 (p : Int)) := by rw [cell_blk HBk.out]; rfl
                          have HR := hid (HMx.out.go HNt.out).row
                          have HLe := hid HMx.out.le
                          have hps := hp
                          go_wp2_with (at_builtin; refine wpList_append_lies _ rfl _ _ _ rfl (w.heap.size + 3) 51 i0 (.agg #[.string ⟨#[]⟩, .int .i64 0]) 2 24 Tryd.underlying43 HI0.out.1 HI0.out.2.1 HI0.out.2.2.1 HI0.out.2.2.2 rfl (by omega) (.slice ao acc.length cap) acc.length (tcells acc) rfl (HR.out.alloc _) ⟨wr.heap.size, 0, none⟩ 1 1 [.string (strOfL (canon u)), .int .i64 (p : Int)] rfl rfl (World.news_of_block (heap_alloc_new wr _)) (by simp [Value.oneCell']) (by decide) (by have := HLe.out; unfold maxLen; omega) (by have := HLe.out; omega) (by have := (HMx.out.go HNt.out).sz; simp; omega) (wr.heap.size + 1) (by simp) ?_; intro g cap' w5 hown hgrow hat hg)
                          have hmv : Mv (fun y => w.heap.size + 3 ≤ y) wrO w5 := ((HNt.out.mono (fun _ h => h.elim)).trans (Mv.alloc (fun _ => False) wr _) (fun _ h => h.elim)).trans (Mv.grown hgrow) (fun y hy => .inl (own_base HR.out hy))
                          have HMW := hid (HMx.out.word HC.out HB.out HONE.out hown hmv)
                          have HPOS := hid (one_pre HONE.out).2
                          clear hown hgrow hat hg hmv
                          go_wp2_with fail
                          go_roundw
                          case rel => exact ⟨p + u.length, acc ++ [(canon u, p)], by rw [HUZ.out]; go_num, HMW⟩
                          case measure => have := HPOS.out; have := HUZ.out; simp [intOf]; omega
                    · subst hn
                      have hn' : ¬ ((S.size : Int) < (S.size : Int)) := by omega
                      obtain ⟨wrO, hwrO⟩ : ∃ wrO, wrO = w1 := ⟨_, rfl⟩
                      subst hwrO
                      obtain ⟨W13, hW13⟩ : ∃ W13, wrO.alloc (.cells #[.string (strOfL u), .int .i64 (p : Int)] 51) = W13 := ⟨_, rfl⟩
                      go_upto_region 25 with fail
                      have hn13 : Nu wrO W13 := by rw [← hW13]; exact Mv.alloc _ _ _
                      have hb13 : W13.heap[wrO.heap.size]? = some (.cells #[.string (strOfL u), .int .i64 (p : Int)] 51 (0, 0)) := by rw [← hW13]; exact heap_alloc_new wrO _
                      have HN13 := hid hn13
                      have HB13 := hid hb13
                      clear hW13 hn13 hb13
                      go_wp2_with fail
                      go_loopw [14] (fun iv wt => ∃ q : Nat, q ≤ 8 ∧ iv = .int .i64 (q : Int) ∧ Hid (Nu wrO wt) ∧ ∃ cur, Hid (CurIs q u cur) ∧ Hid (wt.heap[wrO.heap.size]? = some (.cells #[.string (strOfL cur), .int .i64 (p : Int)] 51 (0, 0)))) (fun iv _ => 8 - (intOf iv).toNat)
                      case atStart => exact ⟨0, Nat.zero_le _, rfl, HN13, u, .inl ⟨rfl, fun j hj => absurd hj (Nat.not_lt_zero _)⟩, HB13⟩
                      case round =>
                        obtain ⟨q, hq, rfl, HNt, cur, HCu, HBk⟩ := hrel
                        by_cases hq8 : q < 8
                        · have hq8' : (q : Int) < 8 := by omega
                          obtain ⟨x, hx⟩ : ∃ x, frs[q]? = some x := ⟨_, List.getElem?_eq_getElem (by exact hq8)⟩
                          have hf := (HMx.out.go HNt.out).t2 q x hx
                          by_cases hxe : x = u
                          · subst hxe
                            have ht := (HMx.out.go HNt.out).t3 q _ (canon_in hx)
                            have b0 : wr.cell? ⟨wrO.heap.size, 0, none⟩ = some (.string (strOfL cur)) := by rw [cell_blk HBk.out]; rfl
                            have g0 : wr.frozen? ⟨wrO.heap.size, 0, none⟩ = false := free_blk HBk.out 0
                            clear hx
                            go_wp2_with fail
                            go_roundw
                            case rel => exact ⟨q + 1, hq8, by go_num, HNt.out.trans (Mv.setCell wr ⟨wrO.heap.size, 0, none⟩ _) (fun y hy => .inr (Nat.le_of_eq hy.symm)), canon x, .inr rfl, by rw [setCell_blk HBk.out]; exact rfl⟩
                            case measure => simp [intOf]; omega
                          · have he' : ((strOfL x).toList == (strOfL u).toList) = false := by rw [tl_eq, strOfL_toList]; exact decide_eq_false hxe
                            have HCn := hid (HCu.out.next hx hxe)
                            clear hx hxe
                            go_wp2_with fail
                            go_roundw
                            case rel => exact ⟨q + 1, hq8, by go_num, HNt, cur, HCn, HBk⟩
                            case measure => simp [intOf]; omega
                        · have hq8' : ¬ (q : Int) < 8 := by omega
                          have hq88 : q = 8 := by omega
                          subst hq88
                          have hcc := HCu.out.done
                          subst hcc
                          have b0 : wr.cell? ⟨wrO.heap.size, 0, none⟩ = some (.string (strOfL (canon u))) := by rw [cell_blk HBk.out]; rfl
                          have b1 : wr.cell? ⟨wrO.heap.size, 1, none⟩ = some (.int .i64 (p : Int)) := by rw [cell_blk HBk.out]; rfl
                          have HR := hid (HMx.out.go HNt.out).row
                          have HLe := hid HMx.out.le
                          have hps := hp
                          go_wp2_with (at_builtin; refine wpList_append_lies _ rfl _ _ _ rfl (w.heap.size + 3) 51 i0 (.agg #[.string ⟨#[]⟩, .int .i64 0]) 2 24 Tryd.underlying43 HI0.out.1 HI0.out.2.1 HI0.out.2.2.1 HI0.out.2.2.2 rfl (by omega) (.slice ao acc.length cap) acc.length (tcells acc) rfl (HR.out.alloc _) ⟨wr.heap.size, 0, none⟩ 1 1 [.string (strOfL (canon u)), .int .i64 (p : Int)] rfl rfl (World.news_of_block (heap_alloc_new wr _)) (by simp [Value.oneCell']) (by decide) (by have := HLe.out; unfold maxLen; omega) (by have := HLe.out; omega) (by have := (HMx.out.go HNt.out).sz; simp; omega) (wr.heap.size + 1) (by simp) ?_; intro g cap' w5 hown hgrow hat hg)
                          have hmv : Mv (fun y => w.heap.size + 3 ≤ y) wrO w5 := ((HNt.out.mono (fun _ h => h.elim)).trans (Mv.alloc (fun _ => False) wr _) (fun _ h => h.elim)).trans (Mv.grown hgrow) (fun y hy => .inl (own_base HR.out hy))
                          have HMW := hid (HMx.out.word HC.out HB.out HONE.out hown hmv)
                          have HPOS := hid (one_pre HONE.out).2
                          clear hown hgrow hat hg hmv
                          go_wp2_with fail
                          go_roundw
                          case rel => exact ⟨p + u.length, acc ++ [(canon u, p)], by rw [HUZ.out]; go_num, HMW⟩
                          case measure => have := HPOS.out; have := HUZ.out; simp [intOf]; omega
                  · have h32' : ¬ ((n : Int) - (p : Int) ≤ 32) := by omega
                    have HZ : Hid (Z = .error p) := HMx.out.none HC.out HB.out (by rw [HON.out, if_neg h32])
                    clear HON HTW hu hul hune husz hgo hsz h32
                    rcases hexit with ⟨d, hn, hd, hld⟩ | hn
                    · have HCn := hid (HG.out n hn)
                      generalize hcn : S[n] = d' at HCn
                      have hdd : d' = d := by have := HCn.out; rw [hd] at this; injection this with this; exact this.symm
                      subst hdd
                      have HLd := hid (letter_any d')
                      have HDd := hid (digit_any d')
                      have hl : isLet d' = false ∧ isDig d' = false := by unfold isLD at hld; simpa using hld
                      rw [hl.1] at HLd
                      rw [hl.2] at HDd
                      have hn' : (n : Int) < (S.size : Int) := by omega
                      clear hl hld hd
                      go_wp2_with fail
                      refine Calls.mono (HLd.out _) ?_
                      rintro e w1 ⟨rfl, rfl⟩
                      go_wp2_with fail
                      refine Calls.mono (HDd.out _) ?_
                      rintro e w1 ⟨rfl, rfl⟩
                      go_wp2_with fail
                      rw [← HO.out, HZ.out]
                      exact ⟨HMx.out.nu, rfl⟩
                    · subst hn
                      have hn' : ¬ ((S.size : Int) < (S.size : Int)) := by omega
                      go_wp2_with fail
                      rw [← HO.out, HZ.out]
                      exact ⟨HMx.out.nu, rfl⟩
        · have hz : ((strOfL u).toList == []) = false := by rw [tl_eq]; exact decide_eq_false hu
          have HSG : Hid (sgn (s.drop p) = some u) := by
            rcases HU.out with ⟨h, _⟩ | ⟨_, h⟩
            · exact absurd h hu
            · exact h
          have HONE : Hid (one (s.drop p) = some u) := by show _ = _; unfold one; rw [HSG.out]
          have hu3 : u.length ≤ 32 := by
            have : ∀ y ∈ signs, y.length ≤ 32 := by decide
            exact this u (find_mem HSG.out).1
          have husz : (strOfL u).size = u.length := by simp [strOfL, ByteArray.size]
          have HUZ := hid husz
          have husb : (strOfL u).size ≤ 32 := by omega
          clear hu3 husz hu HU
          by_cases hi11 : (i : Int) < 11
          all_goals
            obtain ⟨wrO, hwrO⟩ : ∃ wrO, wrO = wr := ⟨_, rfl⟩
            subst hwrO
            obtain ⟨W13, hW13⟩ : ∃ W13, wrO.alloc (.cells #[.string (strOfL u), .int .i64 (p : Int)] 51) = W13 := ⟨_, rfl⟩
            go_upto_region 25 with fail
            have hn13 : Nu wrO W13 := by rw [← hW13]; exact Mv.alloc _ _ _
            have hb13 : W13.heap[wrO.heap.size]? = some (.cells #[.string (strOfL u), .int .i64 (p : Int)] 51 (0, 0)) := by rw [← hW13]; exact heap_alloc_new wrO _
            have HN13 := hid hn13
            have HB13 := hid hb13
            clear hW13 hn13 hb13
            go_wp2_with fail
            go_loopw [14] (fun iv wt => ∃ q : Nat, q ≤ 8 ∧ iv = .int .i64 (q : Int) ∧ Hid (Nu wrO wt) ∧ ∃ cur, Hid (CurIs q u cur) ∧ Hid (wt.heap[wrO.heap.size]? = some (.cells #[.string (strOfL cur), .int .i64 (p : Int)] 51 (0, 0)))) (fun iv _ => 8 - (intOf iv).toNat)
            case atStart => exact ⟨0, Nat.zero_le _, rfl, HN13, u, .inl ⟨rfl, fun j hj => absurd hj (Nat.not_lt_zero _)⟩, HB13⟩
            case round =>
              obtain ⟨q, hq, rfl, HNt, cur, HCu, HBk⟩ := hrel
              by_cases hq8 : q < 8
              · have hq8' : (q : Int) < 8 := by omega
                obtain ⟨x, hx⟩ : ∃ x, frs[q]? = some x := ⟨_, List.getElem?_eq_getElem (by exact hq8)⟩
                have hf := (HMx.out.go HNt.out).t2 q x hx
                by_cases hxe : x = u
                · subst hxe
                  have ht := (HMx.out.go HNt.out).t3 q _ (canon_in hx)
                  have b0 : wr.cell? ⟨wrO.heap.size, 0, none⟩ = some (.string (strOfL cur)) := by rw [cell_blk HBk.out]; rfl
                  have g0 : wr.frozen? ⟨wrO.heap.size, 0, none⟩ = false := free_blk HBk.out 0
                  clear hx
                  go_wp2_with fail
                  go_roundw
                  case rel => exact ⟨q + 1, hq8, by go_num, HNt.out.trans (Mv.setCell wr ⟨wrO.heap.size, 0, none⟩ _) (fun y hy => .inr (Nat.le_of_eq hy.symm)), canon x, .inr rfl, by rw [setCell_blk HBk.out]; exact rfl⟩
                  case measure => simp [intOf]; omega
                · have he' : ((strOfL x).toList == (strOfL u).toList) = false := by rw [tl_eq, strOfL_toList]; exact decide_eq_false hxe
                  have HCn := hid (HCu.out.next hx hxe)
                  clear hx hxe
                  go_wp2_with fail
                  go_roundw
                  case rel => exact ⟨q + 1, hq8, by go_num, HNt, cur, HCn, HBk⟩
                  case measure => simp [intOf]; omega
              · have hq8' : ¬ (q : Int) < 8 := by omega
                have hq88 : q = 8 := by omega
                subst hq88
                have hcc := HCu.out.done
                subst hcc
                have b0 : wr.cell? ⟨wrO.heap.size, 0, none⟩ = some (.string (strOfL (canon u))) := by rw [cell_blk HBk.out]; rfl
                have b1 : wr.cell? ⟨wrO.heap.size, 1, none⟩ = some (.int .i64 (p : Int)) := by rw [cell_blk HBk.out]; rfl
                have HR := hid (HMx.out.go HNt.out).row
                have HLe := hid HMx.out.le
                have hps := hp
                go_wp2_with (at_builtin; refine wpList_append_lies _ rfl _ _ _ rfl (w.heap.size + 3) 51 i0 (.agg #[.string ⟨#[]⟩, .int .i64 0]) 2 24 Tryd.underlying43 HI0.out.1 HI0.out.2.1 HI0.out.2.2.1 HI0.out.2.2.2 rfl (by omega) (.slice ao acc.length cap) acc.length (tcells acc) rfl (HR.out.alloc _) ⟨wr.heap.size, 0, none⟩ 1 1 [.string (strOfL (canon u)), .int .i64 (p : Int)] rfl rfl (World.news_of_block (heap_alloc_new wr _)) (by simp [Value.oneCell']) (by decide) (by have := HLe.out; unfold maxLen; omega) (by have := HLe.out; omega) (by have := (HMx.out.go HNt.out).sz; simp; omega) (wr.heap.size + 1) (by simp) ?_; intro g cap' w5 hown hgrow hat hg)
                have hmv : Mv (fun y => w.heap.size + 3 ≤ y) wrO w5 := ((HNt.out.mono (fun _ h => h.elim)).trans (Mv.alloc (fun _ => False) wr _) (fun _ h => h.elim)).trans (Mv.grown hgrow) (fun y hy => .inl (own_base HR.out hy))
                have HMW := hid (HMx.out.word HC.out HB.out HONE.out hown hmv)
                have HPOS := hid (one_pre HONE.out).2
                clear hown hgrow hat hg hmv
                go_wp2_with fail
                go_roundw
                case rel => exact ⟨p + u.length, acc ++ [(canon u, p)], by rw [HUZ.out]; go_num, HMW⟩
                case measure => have := HPOS.out; have := HUZ.out; simp [intOf]; omega

end Go.Proofs.YtidihaecgmbhpaaDoor
/-
  The reference's Parse: a formula, or what is wrong and where.
-/
set_option linter.unusedSimpArgs false
namespace Go.Proofs.YtidihaecgmbhpaaDoor
open Go.RowKit Q

/-- What Parse hands back. -/
def ParseOut (w : World) (x : Except (Nat × Nat) F) (e : Ending) (w' : World) : Prop :=
  Nu w w' ∧ match x with
  | .ok t => ∃ d0 d1 d2, e = .returned (.tuple #[.agg #[d0, d1, d2], .agg #[.int .i64 0, .int .i64 0]]) ∧ TIn w' (fun b => w.heap.size ≤ b) d0 d1 d2 t.t
  | .error (c, p) => e = .returned (.tuple #[.agg #[.int .i64 0, .string ⟨#[]⟩, .slice none 0 0], .agg #[.int .i64 (c : Int), .int .i64 (p : Int)]])

theorem nu_set {w W : World} (h : Nu w W) {b i : Nat} (hb : w.heap.size ≤ b) (v : Value) : Nu w (W.setCell ⟨b, i, none⟩ v) :=
  h.trans (Mv.setCell W ⟨b, i, none⟩ v) (fun y hy => .inr (by rw [hy]; exact hb))

/-- The results' blocks. -/
structure Res (w W : World) : Prop where
  nu : Nu w W
  r2 : W.heap[w.heap.size]? = some (.cells #[.int .i64 0, .string ⟨#[]⟩, .slice none 0 0] 24 (0, 0))
  r3 : W.heap[w.heap.size + 1]? = some (.cells #[.int .i64 0, .int .i64 0] 27 (0, 0))

theorem res0 (w : World) : Res w ((w.alloc (.cells #[.int .i64 0, .string ⟨#[]⟩, .slice none 0 0] 24)).alloc (.cells #[.int .i64 0, .int .i64 0] 27)) := by
  have hb := heap_alloc_new (w.alloc (.cells #[.int .i64 0, .string ⟨#[]⟩, .slice none 0 0] 24)) (.cells #[.int .i64 0, .int .i64 0] 27)
  rw [show (w.alloc (.cells #[.int .i64 0, .string ⟨#[]⟩, .slice none 0 0] 24)).heap.size = w.heap.size + 1 by simp] at hb
  exact ⟨mv0 (Mv.alloc _ w _) (Mv.alloc _ _ _), (Mv.alloc (fun _ => False) _ _).heap (heap_alloc_new w _) id, hb⟩

theorem Res.go {w W W' : World} {pb : Nat} (h : Res w W) (hm : Mv (· = pb) W W') (hp : w.heap.size + 1 < pb) : Res w W' :=
  ⟨h.nu.trans hm (fun y hy => .inr (by omega)), hm.heap h.r2 (by omega), hm.heap h.r3 (by omega)⟩
theorem Res.nus {w W W' : World} (h : Res w W) (hm : Nu W W') : Res w W' := ⟨mv0 h.nu hm, hm.heap h.r2 id, hm.heap h.r3 id⟩

/-- All that is known of the results' cells. -/
structure Five (w W : World) : Prop where
  a : Three W w.heap.size (.int .i64 0) (.string ⟨#[]⟩) (.slice none 0 0)
  c0 : W.cell? ⟨w.heap.size + 1, 0, none⟩ = some (.int .i64 0)
  c1 : W.cell? ⟨w.heap.size + 1, 1, none⟩ = some (.int .i64 0)
  f0 : W.frozen? ⟨w.heap.size + 1, 0, none⟩ = false
  f1 : W.frozen? ⟨w.heap.size + 1, 1, none⟩ = false
theorem Res.five {w W : World} (h : Res w W) : Five w W := ⟨three h.r2, by rw [cell_blk h.r3]; rfl, by rw [cell_blk h.r3]; rfl, free_blk h.r3 0, free_blk h.r3 1⟩

theorem from_zero (L : List (Wd × Nat)) : from' L 0 = L.map (·.1) := by unfold from'; rw [List.drop_zero]

set_option maxHeartbeats 16000000 in
theorem Parse_any (s : Wd) (hs : s.length ≤ 140737488355328) (w : World) : Calls Tryd.prog 7 #[.string (strOfL s)] w (ParseOut w (parse s)) := by
  have hsz : (strOfL s).size = s.length := by simp [strOfL, ByteArray.size]
  obtain ⟨x, hx⟩ : ∃ x, parse s = x := ⟨_, rfl⟩
  rw [hx]
  obtain ⟨O, hO⟩ : ∃ O, ParseOut w x = O := ⟨_, rfl⟩
  rw [hO]
  have HO := hid hO
  clear hO
  unfold parse at hx
  obtain ⟨W0, hW0⟩ : ∃ W0, (w.alloc (.cells #[.int .i64 0, .string ⟨#[]⟩, .slice none 0 0] 24)).alloc (.cells #[.int .i64 0, .int .i64 0] 27) = W0 := ⟨_, rfl⟩
  have hr0 := res0 w
  rw [hW0] at hr0
  have HR0 := hid hr0
  by_cases hlong : 4096 < s.length
  · rw [if_pos hlong] at hx
    have hl' : (4096 : Int) < ((strOfL s).size : Int) := by omega
    generalize strOfL s = S at *
    have HX := hid hx
    clear hx hsz hlong hs
    go_enter Tryd.func7, Tryd.ntmps7
    go_upto_region 1 with fail
    clear hW0
    obtain ⟨⟨y0, y1, y2, g0, g1, g2⟩, z0, z1, h0, h1⟩ := hr0.five
    clear hr0
    go_wp2_with fail
    refine bodyPost_ret (v := .tuple #[.agg #[.int .i64 0, .string ⟨#[]⟩, .slice none 0 0], .agg #[.int .i64 2, .int .i64 0]]) (by simp [results, Tryd.results7, go_sem, y0, y1, y2, g0, g1, g2, z0, z1, h0, h1]) rfl ?_
    rw [← HO.out, ← HX.out]
    exact ⟨by repeat (first | exact HR0.out.nu | refine nu_set ?_ (by omega) _), rfl⟩
  rw [if_neg hlong] at hx
  have hl' : ¬ (4096 : Int) < ((strOfL s).size : Int) := by omega
  have hsb : (strOfL s).size ≤ 4096 := by omega
  have HT := hid (Tokens_any s (by omega) W0)
  have HSZ := hid hsz
  generalize strOfL s = S at *
  have HXX := hid hx
  clear hx hsz hs
  go_enter Tryd.func7, Tryd.ntmps7
  go_upto_region 1 with fail
  clear hW0 hr0
  go_wp2_with fail
  refine Calls.mono HT.out ?_
  rintro e w1 ⟨hm1, hout⟩
  have HR1 := hid (HR0.out.nus hm1)
  have HN1 := hid hm1
  clear hm1
  cases htok : tokens s with
  | error p =>
    rw [htok] at hout
    have hx := HXX.out
    rw [htok] at hx
    have HX : Hid (.error (90, p) = x) := hx
    simp only at hout
    subst hout
    clear htok HXX hx HT
    obtain ⟨⟨y0, y1, y2, g0, g1, g2⟩, z0, z1, h0, h1⟩ := HR1.out.five
    have hp0 : (p : Int) ≥ 0 := by omega
    go_wp2_with fail
    refine bodyPost_ret (v := .tuple #[.agg #[.int .i64 0, .string ⟨#[]⟩, .slice none 0 0], .agg #[.int .i64 90, .int .i64 (p : Int)]]) (by simp [results, Tryd.results7, go_sem, y0, y1, y2, g0, g1, g2, z0, z1, h0, h1]) rfl ?_
    rw [← HO.out, ← HX.out]
    exact ⟨by repeat (first | exact HR1.out.nu | refine nu_set ?_ (by omega) _), rfl⟩
  | ok L =>
    rw [htok] at hout
    have hx := HXX.out
    rw [htok] at hx
    simp only at hx hout
    obtain ⟨ao, cap, rfl, htl, hwords⟩ := hout
    obtain ⟨hlen, hwl⟩ := tokens_len htok
    obtain ⟨y, hy⟩ : ∃ y, fm (8 * L.length + 8) 0 (L.map (·.1)) = some y := by
      have := fuel0 (L.map (·.1))
      rw [List.length_map] at this
      cases h : fm (8 * L.length + 8) 0 (L.map (·.1)) with
      | none => exact absurd h this
      | some y => exact ⟨y, rfl⟩
    rw [hy] at hx
    have hlt1 : w.heap.size + 1 < w1.heap.size := lt_of_block HR1.out.r3
    have HLT1 := hid hlt1
    have HX0 := hid hx
    have HLEN := hid hlen
    have HSL : Hid (s.length ≤ 4096) := by show _ ≤ _; omega
    have hN : L.length ≤ 4096 := by omega
    obtain ⟨W2, hW2⟩ : ∃ W2, w1.alloc (.cells #[.slice ao L.length cap, .int .i64 0, .int .i64 (-1)] 48) = W2 := ⟨_, rfl⟩
    have hn2 : Nu w1 W2 := by rw [← hW2]; exact Mv.alloc _ _ _
    have hs2 : W2.heap.size = w1.heap.size + 1 := by rw [← hW2]; simp
    have hP2 : PIs W2 w1.heap.size ao cap L 0 (-1) := ⟨by rw [← hW2]; exact heap_alloc_new w1 _, fun k x hx => by
      obtain ⟨tb, h1, h2, h3, h4⟩ := hwords k x hx
      exact ⟨tb, h1, by have := htl tb h1; omega, cell_mv hn2 h3 id, cell_mv hn2 h4 id⟩, by omega⟩
    have hE : PEnv w1.heap.size ao W2.heap.size := ⟨by omega, fun tb h => by have := htl tb h; omega⟩
    have HC := hid ((fm_all hE (by omega) (fun x hx => by have := (hwl x hx).1; omega) (8 * L.length + 8) (by omega)).1 0 (by omega) 0 (Nat.zero_le _) y (by rw [from_zero]; exact hy) W2 (Nat.le_refl _) hP2)
    have HE := hid hE
    have HW := hid hwords
    have HR2 := hid (HR1.out.nus hn2)
    have HY := hid hy
    clear htok HXX hx HT hwords htl hlen hwl hn2 hs2 hP2 hE hlt1 hy hlong
    go_upto_region 7 with fail
    clear hW2
    go_wp2_with fail
    refine Calls.mono HC.out ?_
    rintro e w3 ⟨hm3, hout3⟩
    obtain ⟨u0, u1, u2, rfl, ku, su, au, lu, cu, rfl, rfl, rfl⟩ := hout3.form
    have HR3 := hid (HR2.out.go hm3 HLT1.out)
    have HM3 := hid hm3
    have HO3 := hid hout3
    clear hm3 hout3 HC
    obtain ⟨W4, hW4⟩ : ∃ W4, w3.alloc (.cells #[.int .i64 ku, .string su, .slice au lu cu] 24) = W4 := ⟨_, rfl⟩
    go_upto_region 8 with fail
    have hn4 : Nu w3 W4 := by rw [← hW4]; exact Mv.alloc _ _ _
    have hb7 : W4.heap[w3.heap.size]? = some (.cells #[.int .i64 ku, .string su, .slice au lu cu] 24 (0, 0)) := by rw [← hW4]; exact heap_alloc_new w3 _
    have HN4 := hid hn4
    have HB7 := hid hb7
    have HR4 := hid (HR3.out.nus hn4)
    clear hW4 hn4 hb7
    obtain ⟨⟨y0, y1, y2, g0, g1, g2⟩, z0, z1, h0, h1⟩ := HR4.out.five
    cases y with
    | error q =>
      obtain ⟨_, _, _, j, _, _, _, hp⟩ := HO3.out
      have hq : q ≤ L.length := by have := (err_le _).1 _ _ _ HY.out; simpa using this
      have hp4 := hp.nu HN4.out
      obtain ⟨bd, hbd⟩ : ∃ bd : Nat, L.length - q = bd := ⟨_, rfl⟩
      rw [hbd] at hp4
      have c2 := hp4.c2
      have hb0 : ¬ ((bd : Int) < 0) := by omega
      have hx := HX0.out
      by_cases hq0 : q = 0
      · have hbe : (bd : Int) ≥ (L.length : Int) := by omega
        have HX : Hid (.error (91, S.size) = x) := by show _ = _; rw [← hx, HSZ.out]; simp only [if_pos hq0]
        clear hx hp hq hbd hq0 hp4
        go_wp2_with fail
        refine bodyPost_ret (v := .tuple #[.agg #[.int .i64 0, .string ⟨#[]⟩, .slice none 0 0], .agg #[.int .i64 91, .int .i64 (S.size : Int)]]) (by simp [results, Tryd.results7, go_sem, y0, y1, y2, g0, g1, g2, z0, z1, h0, h1]) rfl ?_
        rw [← HO.out, ← HX.out]
        exact ⟨by repeat (first | exact HR4.out.nu | refine nu_set ?_ (by omega) _), rfl⟩
      · have hbe : ¬ (bd : Int) ≥ (L.length : Int) := by omega
        have hbp : (bd : Int) ≥ 0 := by omega
        have hbl : (bd : Int) < (L.length : Int) := by omega
        have hbL : bd < L.length := by omega
        obtain ⟨xt, hxt⟩ : ∃ xt, L[bd]? = some xt := ⟨_, List.getElem?_eq_getElem hbL⟩
        have HX : Hid (.error (92, xt.2) = x) := by
          show _ = _
          rw [← hx]
          simp only [if_neg hq0]
          rw [hbd, List.getElem?_map, hxt]
          rfl
        obtain ⟨tb, hao, htp, ht0, ht1⟩ := hp4.words bd xt hxt
        have htb : w.heap.size + 1 < tb := by
          obtain ⟨tb', h1, h2, _⟩ := HW.out bd xt hxt
          have e : tb = tb' := by rw [hao] at h1; injection h1 with h1; injection h1
          have := lt_of_block HR0.out.r3
          omega
        subst hao
        have n1 : ¬ w1.heap.size = w.heap.size := by have := HLT1.out; omega
        have n2 : ¬ w1.heap.size = w.heap.size + 1 := by have := HLT1.out; omega
        have n3 : ¬ tb = w.heap.size := by omega
        have n4 : ¬ tb = w.heap.size + 1 := by omega
        clear hx hp hq hbd hq0 hp4 hxt ht0
        go_wp2_with fail
        go_region
        all_goals
          go_wp2_with fail
          refine bodyPost_ret (v := .tuple #[.agg #[.int .i64 0, .string ⟨#[]⟩, .slice none 0 0], .agg #[.int .i64 92, .int .i64 (xt.2 : Int)]]) (by simp [results, Tryd.results7, go_sem, y0, y1, y2, g0, g1, g2, z0, z1, h0, h1]) rfl ?_
          rw [← HO.out, ← HX.out]
          exact ⟨by repeat (first | exact HR4.out.nu | refine nu_set ?_ (by omega) _ | refine mv0 ?_ (Mv.drew _ _)), rfl⟩
    | ok tr =>
      obtain ⟨t, r⟩ := tr
      obtain ⟨v0, v1, v2, hv, htr, hp⟩ := HO3.out
      have he : #[Value.int .i64 ku, .string su, .slice au lu cu] = #[v0, v1, v2] := by injection hv with h1; injection h1
      simp only [Array.mk.injEq, List.cons.injEq, and_true] at he
      obtain ⟨rfl, rfl, rfl⟩ := he
      have hsl := (size_le _).1 _ _ _ _ HY.out
      rw [List.length_map] at hsl
      have hp4 := hp.nu HN4.out
      have c2 := hp4.c2
      have c1 := hp4.c1
      have hx := HX0.out
      simp only at hx
      by_cases hr : r.length = 0
      · rw [hr, Nat.sub_zero] at c1
        rw [if_pos hr] at hx
        have HD := hid (fun W (hW : Nu W4 W) => Depth_any t.t (by rw [t.size_t]; omega) W _ _ _ (((htr.nu HN4.out).nu hW).mono (fun _ _ _ => trivial)))
        rw [t.depth_t] at HD
        have HTR := hid (htr.nu HN4.out)
        obtain ⟨b0, b1, b2, _, _, _⟩ := three HB7.out
        have hdb : t.depth ≤ 5000 := by have := t.t.depth_le_size; rw [t.depth_t, t.size_t] at this; omega
        have hnn : ¬ ((L.length : Int) < (L.length : Int)) := by omega
        have hng : ¬ ((-1 : Int) ≥ (L.length : Int)) := by omega
        have HX1 := hid hx
        have HSZ2 : Hid (w.heap.size + 1 < W2.heap.size) := by have := HM3.out; have h1 := HLT1.out; have h2 := HE.out.pl; show _ < _; omega
        generalize t.depth = dp at *
        clear hx hp hp4 hv htr hsl hr
        go_wp2_with fail
        refine Calls.mono (HD.out _ (Mv.refl _ _)) ?_
        rintro e w5 ⟨rfl, hm5⟩
        have HR5 := hid (HR4.out.nus hm5)
        have HN5 := hid hm5
        have HB75 := hid (hm5.heap HB7.out id)
        clear y0 y1 y2 g0 g1 g2 z0 z1 h0 h1 b0 b1 b2 c1 c2
        obtain ⟨⟨y0, y1, y2, g0, g1, g2⟩, z0, z1, h0, h1⟩ := HR5.out.five
        obtain ⟨b0, b1, b2, _, _, _⟩ := three HB75.out
        clear hm5
        by_cases hd : 100 < dp
        · have hd' : (100 : Int) < (dp : Int) := by omega
          have HX : Hid (.error (93, 0) = x) := by show _ = _; rw [← HX1.out, if_pos hd]
          go_wp2_with fail
          refine bodyPost_ret (v := .tuple #[.agg #[.int .i64 0, .string ⟨#[]⟩, .slice none 0 0], .agg #[.int .i64 93, .int .i64 0]]) (by simp [results, Tryd.results7, go_sem, y0, y1, y2, g0, g1, g2, z0, z1, h0, h1]) rfl ?_
          rw [← HO.out, ← HX.out]
          exact ⟨by repeat (first | exact HR5.out.nu | refine nu_set ?_ (by omega) _ | refine mv0 ?_ (Mv.drew _ _)), rfl⟩
        · have hd' : ¬ (100 : Int) < (dp : Int) := by omega
          have HX : Hid (.ok t = x) := by show _ = _; rw [← HX1.out, if_neg hd]
          go_wp2_with fail
          refine bodyPost_ret (v := .tuple #[.agg #[.int .i64 ku, .string su, .slice au lu cu], .agg #[.int .i64 0, .int .i64 0]]) (by simp [results, Tryd.results7, go_sem, y0, y1, y2, g0, g1, g2, z0, z1, h0, h1]) rfl ?_
          rw [← HO.out, ← HX.out]
          refine ⟨by repeat (first | exact HR5.out.nu | refine nu_set ?_ (by omega) _ | refine mv0 ?_ (Mv.drew _ _)), _, _, _, rfl, ?_⟩
          have ht5 := HTR.out.nu HN5.out
          have hs2 := HSZ2.out
          refine TIn.mono (P := fun b => W2.heap.size ≤ b) ?_ (fun y hy _ => by omega)
          repeat (first | exact ht5 | refine TIn.mv ?_ (Mv.setCell _ _ _) (fun y hy _ e => by simp only at e; omega))
      · rw [if_neg hr] at hx
        obtain ⟨bd, hbd⟩ : ∃ bd : Nat, L.length - r.length = bd := ⟨_, rfl⟩
        rw [hbd] at c1 hp4
        have hbL : bd < L.length := by have := t.size; omega
        have hbl : (bd : Int) < (L.length : Int) := by omega
        have hbe : ¬ (bd : Int) ≥ (L.length : Int) := by omega
        have hbp : (bd : Int) ≥ 0 := by omega
        obtain ⟨xt, hxt⟩ : ∃ xt, L[bd]? = some xt := ⟨_, List.getElem?_eq_getElem hbL⟩
        have HX : Hid (.error (92, xt.2) = x) := by
          show _ = _
          rw [← hx]
          rw [hbd, List.getElem?_map, hxt]
          rfl
        have HFl := hid (fail_any hp4)
        have HP4 := hid hp4
        have HXT := hid hxt
        clear hx hp hp4 hv htr hsl hr hbd hxt
        go_wp2_with fail
        refine Calls.mono HFl.out ?_
        rintro e W5 ⟨rfl, hw5⟩
        have hP5 : PIs W5 w1.heap.size ao cap L bd (bd : Int) := by rw [hw5]; exact HP4.out.bad _
        have hm5 : Mv (· = w1.heap.size) W4 W5 := by rw [hw5]; exact Mv.setCell W4 ⟨w1.heap.size, 2, none⟩ _
        have HR5 := hid (HR4.out.go hm5 HLT1.out)
        clear y0 y1 y2 g0 g1 g2 z0 z1 h0 h1 c1 c2
        obtain ⟨⟨y0, y1, y2, g0, g1, g2⟩, z0, z1, h0, h1⟩ := HR5.out.five
        have c2 := hP5.c2
        obtain ⟨tb, hao, htp, ht0, ht1⟩ := hP5.words bd xt HXT.out
        have htb : w.heap.size + 1 < tb := by
          obtain ⟨tb', h1, h2, _⟩ := HW.out bd xt HXT.out
          have e : tb = tb' := by rw [hao] at h1; injection h1 with h1; injection h1
          have := lt_of_block HR0.out.r3
          omega
        subst hao
        have n1 : ¬ w1.heap.size = w.heap.size := by have := HLT1.out; omega
        have n2 : ¬ w1.heap.size = w.heap.size + 1 := by have := HLT1.out; omega
        have n3 : ¬ tb = w.heap.size := by omega
        have n4 : ¬ tb = w.heap.size + 1 := by omega
        clear hw5 hP5 hm5 ht0 HFl
        go_wp2_with fail
        go_region
        all_goals
          go_wp2_with fail
          refine bodyPost_ret (v := .tuple #[.agg #[.int .i64 0, .string ⟨#[]⟩, .slice none 0 0], .agg #[.int .i64 92, .int .i64 (xt.2 : Int)]]) (by simp [results, Tryd.results7, go_sem, y0, y1, y2, g0, g1, g2, z0, z1, h0, h1]) rfl ?_
          rw [← HO.out, ← HX.out]
          exact ⟨by repeat (first | exact HR5.out.nu | refine nu_set ?_ (by omega) _ | refine mv0 ?_ (Mv.drew _ _)), rfl⟩

end Go.Proofs.YtidihaecgmbhpaaDoor
