/-
  SShape, SMono, SAnoStep.
-/
import Derived.Deep.LoopGhost
import Derived.Test.YthmdgbmodgfcmaaGreatDoorM17
import Derived.Test.YthmdgbmodgfcmaaGreatDoorM29
/-
  What the trees of statements look like, as far as it is needed: laws on reading; nothing of the program's text.
-/
namespace Go.Proofs.YthmdgbmodgfcmaaGreatDoor

theorem bnd_inv {r : Res} {k : List D → Nat → Res} {d : List D} {j : Nat} (h : bnd r k = .ok (d, j)) : ∃ e i, r = .ok (e, i) ∧ k e i = .ok (d, j) := by
  rcases r with m | ⟨e, i⟩
  · cases h
  · exact ⟨e, i, rfl, h⟩
theorem need_inv {c : Cx} {s : List UInt8} {i : Nat} {k : Nat → Res} {d : List D} {j : Nat} (h : need c s i k = .ok (d, j)) : c.keyAt i = s ∧ k (i + 1) = .ok (d, j) := by
  unfold need at h
  split at h
  · rename_i hk; exact ⟨hk, h⟩
  · cases h

/-- A list whose second cell is that number. -/
def At1 (d : List D) (p : Int) : Prop := d[1]? = some (.num p)

theorem At1.zero {s : List D} {p : Int} (h : At1 s p) (x : D) : At1 (splice s 0 [x]) p := by
  unfold At1 splice at *
  cases s with
  | nil => simp at h
  | cons a r => simpa using h
theorem At1.far {s : List D} {p : Int} (h : At1 s p) (q : Nat) (hq : 1 < q) (es : List D) : At1 (splice s q es) p := by
  unfold At1 splice at *
  have hl : 1 < s.length := (List.getElem?_eq_some_iff.1 h).1
  rw [List.append_assoc, List.getElem?_append_left (by simp; omega), List.getElem?_take, if_pos hq]
  exact h
theorem At1.stmt0 (p : Nat) : At1 (stmt0 p) (p : Int) := rfl

/-- How long what is read of expressions is. -/
structure L9 (c : Cx) (f : Nat) : Prop where
  expr : ∀ {i : Nat} {d : List D} {j : Nat}, run c f .expr i = .ok (d, j) → d.length = 9
  operators : ∀ {l i : Nat} {d : List D} {j : Nat}, run c f (.operators l) i = .ok (d, j) → d.length = 9
  more : ∀ {l i : Nat} {e d : List D} {j : Nat}, e.length = 9 → run c f (.more l e) i = .ok (d, j) → d.length = 9
  unary : ∀ {i : Nat} {d : List D} {j : Nat}, run c f .unary i = .ok (d, j) → d.length = 9
  primary : ∀ {i : Nat} {d : List D} {j : Nat}, run c f .primary i = .ok (d, j) → d.length = 9
  parens : ∀ {i : Nat} {d : List D} {j : Nat}, run c f .parens i = .ok (d, j) → d.length = 9
  cond : ∀ {i : Nat} {e d : List D} {j : Nat}, run c f (.cond e) i = .ok (d, j) → d.length = 9
  run : ∀ {i : Nat} {d : List D} {j : Nat}, Go.Proofs.YthmdgbmodgfcmaaGreatDoor.run c f .run i = .ok (d, j) → d.length = 9
  length : ∀ {i : Nat} {d : List D} {j : Nat}, Go.Proofs.YthmdgbmodgfcmaaGreatDoor.run c f .length i = .ok (d, j) → d.length = 9
  named : ∀ {i : Nat} {d : List D} {j : Nat}, Go.Proofs.YthmdgbmodgfcmaaGreatDoor.run c f .named i = .ok (d, j) → d.length = 9
  label : ∀ {i : Nat} {e d : List D} {j : Nat}, Go.Proofs.YthmdgbmodgfcmaaGreatDoor.run c f (.label e) i = .ok (d, j) → d.length = 9
  poll : ∀ {i : Nat} {r d : List D} {j : Nat}, r.length = 3 → Go.Proofs.YthmdgbmodgfcmaaGreatDoor.run c f (.poll (aRef r)) i = .ok (d, j) → d.length = 9
  index : ∀ {i : Nat} {d : List D} {j : Nat}, Go.Proofs.YthmdgbmodgfcmaaGreatDoor.run c f .index i = .ok (d, j) → d.length = 9

theorem ref_len {c : Cx} {f i : Nat} {d : List D} {j : Nat} (h : run c f .ref i = .ok (d, j)) : d.length = 3 := by
  obtain ⟨ns, ix, hs, rfl, _⟩ := ref_shape h; rfl

theorem aRef_len {r : List D} (h : r.length = 3) : (aRef r).length = 9 := by simp [aRef, h]

theorem l9 (c : Cx) : ∀ f, L9 c f
  | 0 => by constructor <;> intros <;> first | (rename_i h; cases h; done) | skip
  | f + 1 => by
    have ih := l9 c f
    constructor
    · intro i d j h; rw [run_expr] at h; exact ih.operators h
    · intro l i d j h; rw [run_operators] at h; obtain ⟨e, i1, h1, h2⟩ := bnd_inv h; exact ih.more (ih.unary h1) h2
    · intro l i e d j he h
      rw [run_more] at h
      split at h
      · cases h; exact he
      · obtain ⟨e2, i1, h1, h2⟩ := bnd_inv h; exact ih.more rfl h2
    · intro i d j h
      rw [run_unary] at h
      split at h
      · obtain ⟨e2, i1, h1, h2⟩ := bnd_inv h; cases h2; rfl
      · exact ih.primary h
    · intro i d j h
      rw [run_primary] at h
      repeat' split at h
      all_goals first
        | (cases h; rfl)
        | exact ih.named h
        | exact ih.parens h
        | exact ih.run h
        | exact ih.length h
        | cases h
    · intro i d j h
      rw [run_parens] at h
      obtain ⟨_, h⟩ := need_inv h
      obtain ⟨e2, i1, h1, h2⟩ := bnd_inv h
      split at h2
      · obtain ⟨e3, i3, h3, h4⟩ := bnd_inv h2
        obtain ⟨_, h4⟩ := need_inv h4
        cases h4; exact ih.cond h3
      · obtain ⟨_, h4⟩ := need_inv h2
        cases h4; exact ih.expr h1
    · intro i e d j h
      rw [run_cond] at h
      obtain ⟨e2, i1, h1, h2⟩ := bnd_inv h
      obtain ⟨_, h2⟩ := need_inv h2
      obtain ⟨e3, i3, h3, h4⟩ := bnd_inv h2
      cases h4; rfl
    · intro i d j h
      rw [run_run] at h
      obtain ⟨_, h⟩ := need_inv h
      obtain ⟨e2, i1, h1, h2⟩ := bnd_inv h
      obtain ⟨e3, i3, h3, h4⟩ := bnd_inv h2
      cases h4; rfl
    · intro i d j h
      rw [run_length] at h
      obtain ⟨_, h⟩ := need_inv h
      obtain ⟨e2, i1, h1, h2⟩ := bnd_inv h
      obtain ⟨_, h2⟩ := need_inv h2
      cases h2
      simp [aLen, ref_len h1]
    · intro i d j h
      rw [run_named] at h
      obtain ⟨e2, i1, h1, h2⟩ := bnd_inv h
      split at h2
      · exact ih.label h2
      · split at h2
        · exact ih.poll (ref_len h1) h2
        · cases h2; exact aRef_len (ref_len h1)
    · intro i e d j h
      rw [run_label] at h
      obtain ⟨_, h⟩ := need_inv h
      obtain ⟨e2, i1, h1, h2⟩ := bnd_inv h
      cases h2; rfl
    · intro i r d j hr h
      rw [run_poll] at h
      obtain ⟨_, h⟩ := need_inv h
      obtain ⟨e2, i1, h1, h2⟩ := bnd_inv h
      obtain ⟨_, h2⟩ := need_inv h2
      cases h2
      simp [aPoll, aRef, hr]
    · intro i d j h
      rw [run_index] at h
      obtain ⟨_, h⟩ := need_inv h
      obtain ⟨e2, i1, h1, h2⟩ := bnd_inv h
      obtain ⟨_, h2⟩ := need_inv h2
      cases h2; exact ih.expr h1

theorem active_shape {c : Cx} {f i p : Nat} {d : List D} {j : Nat} (h : run c f (.active (splice (unit0 p) 0 [.num 4])) i = .ok (d, j)) :
    ∃ y0 y1 y2 y3 y4 y5 y6 y7 y8, d = splice (splice (unit0 p) 0 [.num 4]) 5 [.bit true, y0, y1, y2, y3, y4, y5, y6, y7, y8] := by
  cases f with
  | zero => cases h
  | succ f =>
    rw [run_active] at h
    split at h
    · obtain ⟨e, i', h1, h2⟩ := bnd_inv h
      obtain ⟨a0, a1, a2, a3, a4, a5, a6, a7, a8, rfl⟩ := len9 ((l9 c f).index h1)
      cases h2
      exact ⟨_, _, _, _, _, _, _, _, _, rfl⟩
    · cases h
      exact ⟨_, _, _, _, _, _, _, _, _, rfl⟩

theorem At1.onVariable {c : Cx} {f i : Nat} {s : List D} {p : Int} (hs : At1 s p) {d : List D} {j : Nat} (h : run c f (.onVariable s) i = .ok (d, j)) : At1 d p := by
  cases f with
  | zero => cases h
  | succ f =>
    rw [run_onVariable] at h
    obtain ⟨r, j1, _, h⟩ := bnd_inv h
    repeat' split at h
    all_goals first
      | (obtain ⟨e, j2, _, h⟩ := bnd_inv h; cases h; exact (hs.zero _).far _ (by decide) _)
      | (obtain ⟨e, j2, _, h⟩ := bnd_inv h; cases h; exact ((hs.zero _).far _ (by decide) _).far _ (by decide) _)
      | (cases h; exact ((hs.zero _).far _ (by decide) _).far _ (by decide) _)
      | (obtain ⟨e, j2, _, h⟩ := bnd_inv h; cases h; exact (((hs.zero _).far _ (by decide) _).far _ (by decide) _).far _ (by decide) _)
      | skip
    all_goals
      (cases f with
       | zero => cases h
       | succ f =>
        rw [run_received] at h
        split at h
        · obtain ⟨e, j2, _, h⟩ := bnd_inv h
          obtain ⟨_, h⟩ := need_inv h
          cases h
          exact ((((hs.zero _).far _ (by decide) _).far _ (by decide) _).far _ (by decide) _).far _ (by decide) _
        · obtain ⟨e, j2, _, h⟩ := bnd_inv h
          cases h
          exact ((((hs.zero _).far _ (by decide) _).far _ (by decide) _).far _ (by decide) _).far _ (by decide) _)

theorem At1.namedStmt {c : Cx} {f i : Nat} {s : List D} {p : Int} (hs : At1 s p) {d : List D} {j : Nat} (h : run c f (.namedStmt s) i = .ok (d, j)) : At1 d p := by
  cases f with
  | zero => cases h
  | succ f =>
    rw [run_namedStmt] at h
    split at h
    · obtain ⟨e, j2, _, h⟩ := bnd_inv h; cases h; exact ((hs.zero _).far _ (by decide) _).far _ (by decide) _
    · split at h
      · obtain ⟨e, j2, _, h⟩ := bnd_inv h; cases h; exact ((hs.zero _).far _ (by decide) _).far _ (by decide) _
      · exact hs.onVariable h

theorem At1.simple {c : Cx} {f i : Nat} {s : List D} {p : Int} (hs : At1 s p) {d : List D} {j : Nat} (h : run c f (.simple s) i = .ok (d, j)) : At1 d p := by
  cases f with
  | zero => cases h
  | succ f =>
    rw [run_simple] at h
    split at h
    · cases h; exact hs.zero _
    split at h
    · cases h; exact hs.zero _
    split at h
    · cases h; exact hs.zero _
    split at h
    · obtain ⟨e, j2, _, h⟩ := bnd_inv h; cases h; exact (hs.zero _).far _ (by decide) _
    split at h
    · cases f with
      | zero => cases h
      | succ f =>
        rw [run_assertion] at h
        obtain ⟨_, h⟩ := need_inv h
        obtain ⟨_, h⟩ := need_inv h
        obtain ⟨e, j2, _, h⟩ := bnd_inv h
        obtain ⟨_, h⟩ := need_inv h
        cases h; exact (hs.zero _).far _ (by decide) _
    split at h
    · cases f with
      | zero => cases h
      | succ f =>
        rw [run_print] at h
        obtain ⟨_, h⟩ := need_inv h
        obtain ⟨_, h⟩ := need_inv h
        split at h
        · split at h
          · obtain ⟨e, j2, _, h⟩ := bnd_inv h
            obtain ⟨_, h⟩ := need_inv h
            cases h; exact ((hs.zero _).far _ (by decide) _).far _ (by decide) _
          · obtain ⟨_, h⟩ := need_inv h
            cases h; exact (hs.zero _).far _ (by decide) _
        · cases h
    · obtain ⟨e, j2, _, h⟩ := bnd_inv h; cases h; exact (hs.zero _).far _ (by decide) _

theorem stmt_at {c : Cx} {f i : Nat} {d : List D} {j : Nat} (h : run c f .stmt i = .ok (d, j)) : d[1]? = some (.num ((c.place i : Nat) : Int)) := by
  show At1 d _
  have hs : At1 (splice zStmt 1 [.num ((c.place i : Nat) : Int)]) ((c.place i : Nat) : Int) := rfl
  cases f with
  | zero => cases h
  | succ f =>
    rw [run_stmt] at h
    simp only at h
    repeat' split at h
    all_goals first
      | exact hs.namedStmt h
      | exact hs.simple h
      | (obtain ⟨e, j2, _, h⟩ := bnd_inv h; cases h; exact (hs.zero _).far _ (by decide) _)

end Go.Proofs.YthmdgbmodgfcmaaGreatDoor
/-
  Reading goes on: laws on the grammar; nothing of the program's text.
-/
namespace Go.Proofs.YthmdgbmodgfcmaaGreatDoor

theorem sepsF_le (c : Cx) : ∀ (f i : Nat), i ≤ sepsF c f i
  | 0, i => Nat.le_refl _
  | f + 1, i => by
    unfold sepsF
    split
    · exact Nat.le_trans (Nat.le_succ _) (sepsF_le c f (i + 1))
    · exact Nat.le_refl _

theorem anotherStep_le {c : Cx} {i j : Nat} {b : Bool} (h : anotherStep c i = .ok (b, j)) : i ≤ j := by
  have := sepsF_le c (c.T.length + 1) i
  unfold anotherStep seps at h
  simp only at h
  split at h
  · cases h; exact this
  · split at h
    · cases h
    · cases h; exact this

theorem braceF_le {c : Cx} : ∀ {f opn i k : Nat}, braceF c f opn i = some k → i ≤ k
  | 0, _, _, _, h => by cases h
  | f + 1, opn, i, k, h => by
    unfold braceF at h
    split at h
    · have := braceF_le h; omega
    · split at h
      · split at h
        · cases h; exact Nat.le_refl _
        · have := braceF_le h; omega
      · split at h
        · have := braceF_le h; omega
        · cases h

theorem bnd_elim {P : Prop} {r : Res} {k : List D → Nat → Res} {d : List D} {j : Nat} (h : bnd r k = .ok (d, j)) (hk : ∀ e i, r = .ok (e, i) → k e i = .ok (d, j) → P) : P := by
  obtain ⟨e, i, h1, h2⟩ := bnd_inv h; exact hk e i h1 h2
theorem need_elim {P : Prop} {c : Cx} {s : List UInt8} {i : Nat} {k : Nat → Res} {d : List D} {j : Nat} (h : need c s i k = .ok (d, j)) (hk : c.keyAt i = s → k (i + 1) = .ok (d, j) → P) : P := by
  obtain ⟨h1, h2⟩ := need_inv h; exact hk h1 h2

/-- How many words are surely gone over. -/
def Goal.eats : Goal → Nat
  | .more .. => 0 | .cond .. => 0 | .refMore .. => 0 | .rowMore .. => 0 | .declsMore .. => 0 | .beginning .. => 0 | .stepsMore .. => 0 | .unless .. => 0 | .optionsMore .. => 0 | .received .. => 0 | .program .. => 0 | .active .. => 0
  | _ => 1

def Goal.plain : Goal → Bool
  | .row .. => false | .rowMore .. => false | .inParens .. => false | .inBraces .. => false | .message .. => false
  | _ => true

def Goal.sure : Goal → Bool
  | .row g .. => g.plain && decide (g.eats = 1) | .rowMore g .. => g.plain && decide (g.eats = 1) | .inParens g .. => g.plain && decide (g.eats = 1) | .inBraces g .. => g.plain && decide (g.eats = 1) | .message g .. => g.plain && decide (g.eats = 1)
  | _ => true

theorem plain_sure {g : Goal} (h : g.plain = true) : g.sure = true := by cases g <;> first | rfl | (simp [Goal.plain] at h)

theorem run_le (c : Cx) : ∀ (f : Nat) (g : Goal) (i : Nat) (d : List D) (j : Nat), g.sure = true → run c f g i = .ok (d, j) → i + g.eats ≤ j
  | 0, g, i, d, j, _, h => by cases h
  | f + 1, g, i, d, j, hs, h => by
    have ih := run_le c f
    cases g
    case row g t els =>
      simp only [Goal.sure, Bool.and_eq_true, decide_eq_true_eq] at hs
      rw [run_row] at h
      obtain ⟨e, i1, h1, h2⟩ := bnd_inv h
      have a1 := ih _ _ _ _ (plain_sure hs.1) h1
      have a2 := ih _ _ _ _ (by simp [Goal.sure, hs]) h2
      rw [hs.2] at a1
      simp only [Goal.eats] at a2 ⊢
      omega
    case rowMore g t els =>
      simp only [Goal.sure, Bool.and_eq_true, decide_eq_true_eq] at hs
      rw [run_rowMore] at h
      split at h
      · obtain ⟨e, i1, h1, h2⟩ := bnd_inv h
        have a1 := ih _ _ _ _ (plain_sure hs.1) h1
        have a2 := ih _ _ _ _ (by simp [Goal.sure, hs]) h2
        simp only [Goal.eats] at a2 ⊢
        omega
      · cases h; exact Nat.le_refl _
    case inParens g t =>
      simp only [Goal.sure, Bool.and_eq_true, decide_eq_true_eq] at hs
      rw [run_inParens] at h
      obtain ⟨_, h⟩ := need_inv h
      simp only [Goal.eats]
      split at h
      · obtain ⟨_, h⟩ := need_inv h; cases h; omega
      · obtain ⟨e, i1, h1, h2⟩ := bnd_inv h
        obtain ⟨_, h2⟩ := need_inv h2
        have a1 := ih _ _ _ _ (by simp [Goal.sure, hs]) h1
        simp only [Goal.eats] at a1
        cases h2; omega
    case inBraces g t =>
      simp only [Goal.sure, Bool.and_eq_true, decide_eq_true_eq] at hs
      rw [run_inBraces] at h
      obtain ⟨_, h⟩ := need_inv h
      obtain ⟨e, i1, h1, h2⟩ := bnd_inv h
      obtain ⟨_, h2⟩ := need_inv h2
      have a1 := ih _ _ _ _ (by simp [Goal.sure, hs]) h1
      simp only [Goal.eats] at a1 ⊢
      cases h2; omega
    case message g t =>
      simp only [Goal.sure, Bool.and_eq_true, decide_eq_true_eq] at hs
      rw [run_message] at h
      obtain ⟨e, i1, h1, h2⟩ := bnd_inv h
      have a1 := ih _ _ _ _ (plain_sure hs.1) h1
      rw [hs.2] at a1
      simp only [Goal.eats]
      split at h2
      · obtain ⟨e3, i3, h3, h4⟩ := bnd_inv h2
        obtain ⟨_, h4⟩ := need_inv h4
        have a3 := ih _ _ _ _ (by simp [Goal.sure, hs]) h3
        cases h4; omega
      · split at h2
        · have a3 := ih _ _ _ _ (by simp [Goal.sure, hs]) h2
          omega
        · cases h2; omega
    case stepsMore els =>
      rw [run_stepsMore] at h
      simp only [Goal.eats]
      split at h
      · cases h
      · rename_i hA; have := anotherStep_le hA; cases h; omega
      · rename_i hA
        have := anotherStep_le hA
        obtain ⟨e, i1, h1, h2⟩ := bnd_inv h
        have a1 := ih _ _ _ _ rfl h1
        have a2 := ih _ _ _ _ rfl h2
        simp only [Goal.eats] at a1 a2
        omega
    case ltl u =>
      rw [run_ltl] at h
      simp only [Goal.eats]
      obtain ⟨_, h⟩ := need_inv h
      simp only at h
      split at h
      · obtain ⟨_, h⟩ := need_inv h
        split at h
        · rename_i hA; have := braceF_le hA; cases h; omega
        · cases h
      · obtain ⟨_, h⟩ := need_inv h
        split at h
        · rename_i hA; have := braceF_le hA; cases h; omega
        · cases h
    all_goals simp only [run_name, run_expr, run_operators, run_more, run_unary, run_primary, run_parens, run_cond, run_run, run_length, run_named, run_label, run_poll, run_ref, run_refMore, run_part, run_index, run_arg, run_plainType, run_decls, run_declsMore, run_decl, run_variable, run_beginning, run_body, run_steps, run_step, run_unless, run_stmt, run_options, run_optionsMore, run_option, run_simple, run_assertion, run_print, run_namedStmt, run_onVariable, run_received, run_program, run_unit, run_mtypeOrDecl, run_typedef, run_proctype, run_active, run_inline] at h
    all_goals simp only [Goal.eats]
    all_goals clear hs
    all_goals repeat' (first
      | (split at h)
      | (refine need_elim h ?_; clear h; intro _ h)
      | (refine bnd_elim h ?_; clear h; intro e i1 h1 h; replace h1 := ih _ _ _ _ rfl h1; simp only [Goal.eats] at h1))
    all_goals first
      | (cases h; done)
      | (cases h; omega)
      | (replace h := ih _ _ _ _ rfl h; simp only [Goal.eats] at h; omega)

end Go.Proofs.YthmdgbmodgfcmaaGreatDoor
/-
  What the reader's anotherStep does.
-/
namespace Go.Proofs.YthmdgbmodgfcmaaGreatDoor
open Go.RowKit

theorem sepsF_more (c : Cx) : ∀ (f g i : Nat), c.T.length < f + i → c.T.length < g + i → sepsF c f i = sepsF c g i
  | 0, 0, i, _, _ => rfl
  | 0, g + 1, i, h, _ => by
    unfold sepsF
    rw [if_neg]
    rintro (e | e) <;> (have := Cx.lt_of_key e (by decide); omega)
  | f + 1, 0, i, _, h => by
    show sepsF c (f + 1) i = i
    unfold sepsF
    rw [if_neg]
    rintro (e | e) <;> (have := Cx.lt_of_key e (by decide); omega)
  | f + 1, g + 1, i, h1, h2 => by
    simp only [sepsF]
    split
    · exact sepsF_more c f g (i + 1) (by omega) (by omega)
    · rfl

/-- What it does, told as one. -/
def AnoPost (E : Env) (i : Nat) (w : World) (e : Ending) (w' : World) : Prop := match anotherStep E.c i with
  | .error m => e = .panicked (thrown m) ∧ Mv (fun x => x = E.rb) w w'
  | .ok (b, j) => e = .returned (.bool b) ∧ Rd E w' j ∧ Mv (fun x => x = E.rb) w w'

theorem ano_stop {E : Env} {i j : Nat} (hj : seps E.c i = j) (h : E.c.keyAt j = [125] ∨ E.c.keyAt j = [58, 58] ∨ E.c.keyAt j = [102, 105] ∨ E.c.keyAt j = [111, 100]) : anotherStep E.c i = .ok (false, j) := by
  unfold anotherStep; simp only [hj]; rw [if_pos h]
theorem ano_go {E : Env} {i j : Nat} (hj : seps E.c i = j) (h : ¬ (E.c.keyAt j = [125] ∨ E.c.keyAt j = [58, 58] ∨ E.c.keyAt j = [102, 105] ∨ E.c.keyAt j = [111, 100])) (hp : (isClosed E.c i || decide (i < j)) = true) (hle : i ≤ j) : anotherStep E.c i = .ok (true, j) := by
  unfold anotherStep; simp only [hj]; rw [if_neg h, if_neg]
  rintro ⟨h1, h2⟩
  subst h2
  simp [h1] at hp
theorem ano_bad {E : Env} {i j : Nat} (hj : seps E.c i = j) (h : ¬ (E.c.keyAt j = [125] ∨ E.c.keyAt j = [58, 58] ∨ E.c.keyAt j = [102, 105] ∨ E.c.keyAt j = [111, 100])) (hp : (isClosed E.c i || decide (i < j)) = false) (hle : i ≤ j) : anotherStep E.c i = .error (E.c.refuse j) := by
  unfold anotherStep; simp only [hj]; rw [if_neg h, if_pos]
  simp at hp
  exact ⟨hp.1, by omega⟩

set_option maxHeartbeats 8000000 in
theorem anotherStep_any (E : Env) (i : Nat) (hi : 1 ≤ i) (w : World) (h : Rd E w i) : Calls Tryz.prog 109 #[.pointer (some ⟨E.rb, 0, none⟩)] w (AnoPost E i w) := by
  have hl := strOfL_toList
  obtain ⟨A, hA⟩ : ∃ A, AnoPost E i w = A := ⟨_, rfl⟩
  rw [hA]
  have HA : Hid (AnoPost E i w = A) := hA
  clear hA
  go_enter Tryz.func109, Tryz.ntmps109
  go_wp2_with fail
  refine (isClosed_any E i _ h hi).mono ?_
  rintro e w1 ⟨rfl, hm1⟩
  have h1 := h.same hm1
  go_wp2_with fail
  go_loopg [3] (E.c.T.length + 1) (fun k pv wr => ∃ i' : Nat, pv = .bool (isClosed E.c i || decide (i < i')) ∧ sepsF E.c k i' = seps E.c i ∧ i ≤ i' ∧ E.c.T.length < k + i' ∧ Rd E wr i' ∧ Mv (fun x => x = E.rb) w wr)
  case atStart => exact ⟨i, by simp, rfl, Nat.le_refl _, by omega, h1, hm1.mono (fun _ h => h.elim)⟩
  case round =>
    obtain ⟨i', rfl, hsep, hle, hk, hr, hmv⟩ := hrel
    have hle2 := hr.le
    obtain ⟨k, rfl⟩ : ∃ k, gk = k + 1 := ⟨gk - 1, by omega⟩
    have HS : Hid (sepsF E.c (k + 1) i' = seps E.c i) := hsep
    obtain ⟨P, hP⟩ : ∃ P, (isClosed E.c i || decide (i < i')) = P := ⟨_, rfl⟩
    have HP : Hid ((isClosed E.c i || decide (i < i')) = P) := hP
    rw [hP]
    clear hsep hP
    go_wp2_with fail
    rcases Decidable.em (E.c.keyAt i' = [59]) with t1 | t1
    · refine (take_yes E i' _ hr [59] t1 (by decide)).mono ?_
      rintro _ w2 ⟨rfl, hr2, hm2⟩
      have HS2 : Hid (sepsF E.c k (i' + 1) = seps E.c i) := by have := HS.out; simp only [sepsF, t1, true_or, if_true] at this; exact this
      go_wp2_with fail
      go_roundg k
      case measure => omega
      case rel => exact ⟨i' + 1, by simp; omega, HS2.out, by omega, by omega, hr2, hmv.trans hm2 (fun _ h => .inl h)⟩
    · refine (take_no E i' _ hr [59] t1).mono ?_
      rintro _ w2 ⟨rfl, hm2⟩
      have hr2 := hr.same hm2
      have hmv2 := hmv.trans hm2 (fun _ h => h.elim)
      go_wp2_with fail
      rcases Decidable.em (E.c.keyAt i' = [45, 62]) with t2 | t2
      · refine (take_yes E i' _ hr2 [45, 62] t2 (by decide)).mono ?_
        rintro _ w3 ⟨rfl, hr3, hm3⟩
        have HS2 : Hid (sepsF E.c k (i' + 1) = seps E.c i) := by have := HS.out; simp only [sepsF, t2, or_true, if_true] at this; exact this
        go_wp2_with fail
        go_roundg k
        case measure => omega
        case rel => exact ⟨i' + 1, by simp; omega, HS2.out, by omega, by omega, hr3, hmv2.trans hm3 (fun _ h => .inl h)⟩
      · refine (take_no E i' _ hr2 [45, 62] t2).mono ?_
        rintro _ w3 ⟨rfl, hm3⟩
        have hr3 := hr2.same hm3
        have hmv3 := hmv2.trans hm3 (fun _ h => h.elim)
        have HJ : Hid (seps E.c i = i') := by have := HS.out; simp only [sepsF, t1, t2, or_self, if_false] at this; exact this.symm
        clear t1 t2
        go_wp2_with fail
        refine (key_any E i' _ hr3 0 i' (by omega) (by omega)).mono ?_
        rintro _ w4 ⟨rfl, hm4⟩
        have hr4 := hr3.same hm4
        have hmv4 := hmv3.trans hm4 (fun _ h => h.elim)
        rcases Decidable.em (E.c.keyAt i' = [125]) with k1 | k1
        · have b1 : (E.c.keyAt i' == [125]) = true := beq_iff_eq.2 k1
          have HR : Hid (anotherStep E.c i = .ok (false, i')) := ano_stop HJ.out (.inl k1)
          clear k1
          go_wp2_with fail
          rw [← HA.out]
          unfold AnoPost
          rw [HR.out]
          exact ⟨rfl, hr4, hmv4⟩
        have b1 : (E.c.keyAt i' == [125]) = false := beq_eq_false_iff_ne.2 k1
        rcases Decidable.em (E.c.keyAt i' = [58, 58]) with k2 | k2
        · have b2 : (E.c.keyAt i' == [58, 58]) = true := beq_iff_eq.2 k2
          have HR : Hid (anotherStep E.c i = .ok (false, i')) := ano_stop HJ.out (.inr (.inl k2))
          clear k2
          go_wp2_with fail
          rw [← HA.out]
          unfold AnoPost
          rw [HR.out]
          exact ⟨rfl, hr4, hmv4⟩
        have b2 : (E.c.keyAt i' == [58, 58]) = false := beq_eq_false_iff_ne.2 k2
        rcases Decidable.em (E.c.keyAt i' = [102, 105]) with k3 | k3
        · have b3 : (E.c.keyAt i' == [102, 105]) = true := beq_iff_eq.2 k3
          have HR : Hid (anotherStep E.c i = .ok (false, i')) := ano_stop HJ.out (.inr (.inr (.inl k3)))
          clear k3
          go_wp2_with fail
          rw [← HA.out]
          unfold AnoPost
          rw [HR.out]
          exact ⟨rfl, hr4, hmv4⟩
        have b3 : (E.c.keyAt i' == [102, 105]) = false := beq_eq_false_iff_ne.2 k3
        rcases Decidable.em (E.c.keyAt i' = [111, 100]) with k4 | k4
        · have b4 : (E.c.keyAt i' == [111, 100]) = true := beq_iff_eq.2 k4
          have HR : Hid (anotherStep E.c i = .ok (false, i')) := ano_stop HJ.out (.inr (.inr (.inr k4)))
          clear k4
          go_wp2_with fail
          rw [← HA.out]
          unfold AnoPost
          rw [HR.out]
          exact ⟨rfl, hr4, hmv4⟩
        have b4 : (E.c.keyAt i' == [111, 100]) = false := beq_eq_false_iff_ne.2 k4
        have hno : ¬ (E.c.keyAt i' = [125] ∨ E.c.keyAt i' = [58, 58] ∨ E.c.keyAt i' = [102, 105] ∨ E.c.keyAt i' = [111, 100]) := by simp only [k1, k2, k3, k4, or_self, not_false_eq_true]
        cases P with
        | true =>
          have HR : Hid (anotherStep E.c i = .ok (true, i')) := ano_go HJ.out hno HP.out hle
          clear k1 k2 k3 k4 hno
          go_wp2_with fail
          rw [← HA.out]
          unfold AnoPost
          rw [HR.out]
          exact ⟨rfl, hr4, hmv4⟩
        | false =>
          have HR : Hid (anotherStep E.c i = .error (E.c.refuse i')) := ano_bad HJ.out hno HP.out hle
          clear k1 k2 k3 k4 hno
          go_wp2_with fail
          refine (refuse_any E i' _ hr4).mono ?_
          rintro _ w5 ⟨rfl, hm5⟩
          go_wp2_with fail
          rw [← HA.out]
          unfold AnoPost
          rw [HR.out]
          exact ⟨rfl, rfl, hmv4.trans hm5 (fun _ h => h.elim)⟩

theorem anotherStep_ok (E : Env) (i : Nat) (hi : 1 ≤ i) (more : Bool) (j : Nat) (hA : anotherStep E.c i = .ok (more, j)) (w : World) (h : Rd E w i) :
    Calls Tryz.prog 109 #[.pointer (some ⟨E.rb, 0, none⟩)] w fun e w' => e = .returned (.bool more) ∧ Rd E w' j ∧ Mv (fun x => x = E.rb) w w' := by
  have := anotherStep_any E i hi w h
  unfold AnoPost at this
  rw [hA] at this
  exact this
theorem anotherStep_bad (E : Env) (i : Nat) (hi : 1 ≤ i) (m : Mis) (hA : anotherStep E.c i = .error m) (w : World) (h : Rd E w i) :
    Calls Tryz.prog 109 #[.pointer (some ⟨E.rb, 0, none⟩)] w fun e w' => e = .panicked (thrown m) ∧ Mv (fun x => x = E.rb) w w' := by
  have := anotherStep_any E i hi w h
  unfold AnoPost at this
  rw [hA] at this
  exact this

end Go.Proofs.YthmdgbmodgfcmaaGreatDoor
