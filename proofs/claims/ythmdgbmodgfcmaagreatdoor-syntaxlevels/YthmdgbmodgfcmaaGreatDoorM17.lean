/-
  SName, SSpec, SXExpr, SElem, SXRun.
-/
import Derived.Laws.NewBlocks
import Derived.Test.YthmdgbmodgfcmaaGreatDoorM12
import Derived.Test.YthmdgbmodgfcmaaGreatDoorM8
/-
  What name does: a name is read into a cell.
-/
namespace Go.Proofs.YthmdgbmodgfcmaaGreatDoor
open Go.RowKit

set_option maxHeartbeats 1000000 in
theorem name_reads (E : Env) (f i : Nat) (s0 : List UInt8) : Reads E 78 [.str s0] i (run E.c (f + 1) .name i) := by
  intro w F b t N o hr ha hb hF
  have hs := St.start hr ha hb hF
  have hob := ha.str 0 rfl
  have hbb : b ≠ E.rb := fun e => hb (.inl e)
  rw [run_name]
  by_cases hk : E.c.kindAt i = 1
  · rw [if_pos hk]
    obtain ⟨tk, ht, _, htx, _, hlt⟩ := Cx.some_of_kind hk (by decide)
    rw [htx]
    go_enter Tryz.func78, Tryz.ntmps78
    go_wp2_with fail
    refine (next_yes E i _ hr 1 hk (by decide)).mono ?_
    rintro e w1 ⟨rfl, hr1, hm⟩
    have hs1 := hs.goes hr1 hm
    have w1' := (hr1.words i tk ht).2.1
    have c0 := hs1.cur.str 0 rfl
    have f0 := hs1.cur.free o
    simp only [Nat.add_zero] at c0
    clear hob
    go_wp2_with fail
    go_returns
    have := (hs1.set 0 (by simp) (.string (strOfL tk.text)) (.str tk.text) (fun _ => .str _ _)).done
    simpa using this
  · rw [if_neg hk]
    go_enter Tryz.func78, Tryz.ntmps78
    go_wp2_with fail
    refine (next_no E i _ hr 1 hk).mono ?_
    rintro e w1 ⟨rfl, hm⟩
    go_wp2_with fail
    exact ⟨rfl, hs.bad hm _⟩

end Go.Proofs.YthmdgbmodgfcmaaGreatDoor
/-
  What each function of the reader does, as one statement on fuel: for the induction.
-/
namespace Go.Proofs.YthmdgbmodgfcmaaGreatDoor
open Go.RowKit

/-- There was no fuel. -/
abbrev OOF (r : Res) : Prop := r = .error (0, 0)

theorem bnd_fuel {r : Res} {k : List D → Nat → Res} (h : ¬ OOF (bnd r k)) : ¬ OOF r := fun e => h (by unfold OOF at *; rw [e]; rfl)

theorem len1 {l : List D} (h : l.length = 1) : ∃ a, l = [a] := by
  match l, h with
  | [a], _ => exact ⟨a, rfl⟩
theorem len3 {l : List D} (h : l.length = 3) : ∃ a b c, l = [a, b, c] := by
  match l, h with
  | [a, b, c], _ => exact ⟨a, b, c, rfl⟩
theorem len4 {l : List D} (h : l.length = 4) : ∃ a b c d, l = [a, b, c, d] := by
  match l, h with
  | [a, b, c, d], _ => exact ⟨a, b, c, d, rfl⟩
theorem len9 {l : List D} (h : l.length = 9) : ∃ a0 a1 a2 a3 a4 a5 a6 a7 a8, l = [a0, a1, a2, a3, a4, a5, a6, a7, a8] := by
  match l, h with
  | [a0, a1, a2, a3, a4, a5, a6, a7, a8], _ => exact ⟨a0, a1, a2, a3, a4, a5, a6, a7, a8, rfl⟩

theorem len23 {l : List D} (h : l.length = 23) (hd : l.drop 11 = zVar.drop 11) : ∃ a0 a1 a2 a3 a4 a5 a6 a7 a8 a9 a10, l = a0 :: a1 :: a2 :: a3 :: a4 :: a5 :: a6 :: a7 :: a8 :: a9 :: a10 :: zVar.drop 11 := by
  match l, h with
  | a0 :: a1 :: a2 :: a3 :: a4 :: a5 :: a6 :: a7 :: a8 :: a9 :: a10 :: r, _ => exact ⟨a0, a1, a2, a3, a4, a5, a6, a7, a8, a9, a10, by rw [← hd]; rfl⟩
theorem len28 {l : List D} (h : l.length = 28) : ∃ a0 a1 a2 a3 a4 a5 a6 a7 a8 a9 a10 a11 a12 a13 a14 a15 a16 a17 a18 a19 a20 a21 a22 a23 a24 a25 a26 a27, l = [a0, a1, a2, a3, a4, a5, a6, a7, a8, a9, a10, a11, a12, a13, a14, a15, a16, a17, a18, a19, a20, a21, a22, a23, a24, a25, a26, a27] := by
  match l, h with
  | [a0, a1, a2, a3, a4, a5, a6, a7, a8, a9, a10, a11, a12, a13, a14, a15, a16, a17, a18, a19, a20, a21, a22, a23, a24, a25, a26, a27], _ => exact ⟨a0, a1, a2, a3, a4, a5, a6, a7, a8, a9, a10, a11, a12, a13, a14, a15, a16, a17, a18, a19, a20, a21, a22, a23, a24, a25, a26, a27, rfl⟩

theorem name_yes (E : Env) (i : Nat) (s0 : List UInt8) (hk : E.c.kindAt i = 1) : Reads E 78 [.str s0] i (.ok ([.str (E.c.textAt i)], i + 1)) := by
  have := name_reads E 0 i s0
  rw [run_name, if_pos hk] at this
  exact this

/-- What is still to be read comes to R. (An equation that the walk doesn't see.) -/
def Is (a R : Res) : Prop := a = R
theorem Is.start (a : Res) : ∃ R, Is a R ∧ a = R := ⟨a, rfl, rfl⟩
theorem Is.fuel {r R : Res} {k : List D → Nat → Res} (h : Is (bnd r k) R) (hne : ¬ OOF R) : ¬ OOF r := fun e => hne (by have h' : bnd r k = R := h; rw [← h', e]; rfl)
theorem Is.ok {r R : Res} {k : List D → Nat → Res} (h : Is (bnd r k) R) {d : List D} {a : Nat} (e : r = .ok (d, a)) : Is (k d a) R := by subst e; exact h
theorem Is.err {r R : Res} {k : List D → Nat → Res} (h : Is (bnd r k) R) {m : Mis} (e : r = .error m) : R = .error m := by subst e; exact (show _ = R from h).symm
theorem Is.pos {p : Prop} [Decidable p] {a b R : Res} (h : Is (if p then a else b) R) (hp : p) : Is a R := by rw [if_pos hp] at h; exact h
theorem Is.neg {p : Prop} [Decidable p] {a b R : Res} (h : Is (if p then a else b) R) (hp : ¬ p) : Is b R := by rw [if_neg hp] at h; exact h
theorem Is.nyes {c : Cx} {s : List UInt8} {i : Nat} {k : Nat → Res} {R : Res} (h : Is (need c s i k) R) (hk : c.keyAt i = s) : Is (k (i + 1)) R := Is.pos h hk
theorem Is.nno {c : Cx} {s : List UInt8} {i : Nat} {k : Nat → Res} {R : Res} (h : Is (need c s i k) R) (hk : ¬ c.keyAt i = s) : R = .error (c.refuse i) := (show _ = R from Is.neg h hk).symm
theorem fuel_pos {c : Cx} {f : Nat} {g : Goal} {i : Nat} (h : ¬ OOF (run c f g i)) : ∃ f', f = f' + 1 := by
  cases f with
  | zero => exact absurd rfl h
  | succ f => exact ⟨f, rfl⟩
theorem Is.eq {a R : Res} (h : Is a R) : R = a := (show a = R from h).symm
theorem Is.fuel1 {r R : Res} (h : Is r R) (hne : ¬ OOF R) : ¬ OOF r := by rw [h.eq] at hne; exact hne

def ptr (E : Env) : Value := .pointer (some ⟨E.rb, 0, none⟩)
def fnv (E : Env) (K : FuncId) : Value := .func (.func K) #[.pointer (some ⟨E.rb, 0, none⟩)] #[]

def Rds (E : Env) (f : Nat) (K : FuncId) (pre : List D) (g : Goal) : Prop := ∀ i, ¬ OOF (run E.c f g i) → Reads E K pre i (run E.c f g i)

/-- Functions with a row's pointer and what reads one. -/
def RowRds (E : Env) (f : Nat) (K one : FuncId) (t : Ty) (els : List (List D)) (g : Goal) : Prop := ∀ (i : Nat), ¬ OOF (run E.c f g i) →
  ∀ (w : World) (F : Nat → Prop) (b : Nat) (tt : TypeId) (N o : Nat), Rd E w i → At ty w F b tt N o [.row t els] → ¬ E.own b → (∀ x, F x → ¬ E.own x) →
    Calls Tryz.prog K #[.pointer (some ⟨E.rb, 0, none⟩), .pointer (some ⟨b, o, none⟩), .func (.func one) #[.pointer (some ⟨E.rb, 0, none⟩)] #[]] w (Post E F b tt N o 1 w (run E.c f g i))

/-- A variable's cells. -/
def rf (ns : List (List UInt8)) (ix : List (List D)) (hs : List Bool) : List D := [.row .str (ns.map fun s => [.str s]), .row .ast ix, .row .bool (hs.map fun b => [.bit b])]

abbrev stmt0 (p : Nat) : List D := splice zStmt 1 [.num (p : Int)]
abbrev unit0 (p : Nat) : List D := splice zUnit 1 [.num (p : Int)]

/-- All that the reader's functions do, with so much fuel. -/
structure Sp (E : Env) (f : Nat) : Prop where
  name : ∀ s0 : List UInt8, Rds E f 78 [.str s0] .name
  expr : Rds E f 23 zAst .expr
  operators : ∀ (least : Nat), 1 ≤ least → least ≤ 11 → ∀ i, ¬ OOF (run E.c f (.operators least) i) → ∀ (w : World) (F : Nat → Prop) (b : Nat) (t : TypeId) (N o : Nat), Rd E w i → At ty w F b t N o zAst → ¬ E.own b → (∀ x, F x → ¬ E.own x) →
    Calls Tryz.prog 44 #[.pointer (some ⟨E.rb, 0, none⟩), .pointer (some ⟨b, o, none⟩), .int .i64 (least : Int)] w (Post E F b t N o 9 w (run E.c f (.operators least) i))
  unary : Rds E f 64 zAst .unary
  primary : Rds E f 92 zAst .primary
  parens : Rds E f 117 zAst .parens
  cond : ∀ e : List D, e.length = 9 → Rds E f 136 e (.cond e)
  run : Rds E f 118 zAst .run
  length : ∀ i, E.c.kindAt i = 4 → ¬ OOF (Go.Proofs.YthmdgbmodgfcmaaGreatDoor.run E.c f .length i) → Reads E 119 zAst i (Go.Proofs.YthmdgbmodgfcmaaGreatDoor.run E.c f .length i)
  named : Rds E f 116 zAst .named
  label : ∀ (s : List UInt8) (ix : List (List D)) (hs : List Bool), Rds E f 133 (splice zAst 4 (rf [s] ix hs)) (.label (aRef (rf [s] ix hs)))
  poll : ∀ (ns : List (List UInt8)) (ix : List (List D)) (hs : List Bool) (i : Nat), E.c.kindAt i = 4 → ¬ OOF (Go.Proofs.YthmdgbmodgfcmaaGreatDoor.run E.c f (.poll (aRef (rf ns ix hs))) i) → Reads E 135 (splice zAst 4 (rf ns ix hs)) i (Go.Proofs.YthmdgbmodgfcmaaGreatDoor.run E.c f (.poll (aRef (rf ns ix hs))) i)
  ref : Rds E f 132 zRef .ref
  part : ∀ (ns : List (List UInt8)) (ix : List (List D)) (hs : List Bool), ns.length + f ≤ 1000000 → ix.length = ns.length → hs.length = ns.length → Rds E f 144 (rf ns ix hs) (.part (rf ns ix hs))
  index : Rds E f 106 zAst .index
  arg : Rds E f 146 zArg .arg
  rowStr : ∀ els : List (List D), els.length + f ≤ 1000000 → RowRds E f 110 78 .str els (.row .name .str els)
  rowAst : ∀ els : List (List D), els.length + f ≤ 1000000 → RowRds E f 147 23 .ast els (.row .expr .ast els)
  rowArg : ∀ els : List (List D), els.length + f ≤ 1000000 → RowRds E f 155 146 .arg els (.row .arg .arg els)
  rowVar : ∀ els : List (List D), els.length + f ≤ 1000000 → RowRds E f 113 114 .var els (.row .variable .var els)
  rowInt : ∀ els : List (List D), els.length + f ≤ 1000000 → RowRds E f 153 112 .int els (.row .plainType .int els)
  inParStr : RowRds E f 82 78 .str [] (.inParens .name .str)
  inParAst : RowRds E f 137 23 .ast [] (.inParens .expr .ast)
  inBrStr : RowRds E f 85 78 .str [] (.inBraces .name .str)
  inBrInt : RowRds E f 143 112 .int [] (.inBraces .plainType .int)
  msgAst : RowRds E f 156 23 .ast [] (.message .expr .ast)
  msgArg : RowRds E f 145 146 .arg [] (.message .arg .arg)
  plainType : Rds E f 112 [.num 0] .plainType
  decls : Rds E f 79 [.row .decl []] .decls
  decl : Rds E f 84 zDecl .decl
  vari : Rds E f 114 zVar .variable
  beginning : ∀ v : List D, v.length = 23 → v.drop 11 = zVar.drop 11 → Rds E f 131 v (.beginning v)
  body : Rds E f 57 [.row .stmt []] .body
  steps : Rds E f 81 [.row .stmt []] .steps
  step : Rds E f 108 zStmt .step
  unles : (∃ i, E.c.keyAt i = [117, 110, 108, 101, 115, 115]) → ∀ (s : List D) (p : Int), s.length = 28 → s[1]? = some (.num p) → Rds E f 126 s (.unless s)
  stmt : Rds E f 125 zStmt .stmt
  options : ∀ (fin : List UInt8) (i : Nat), ¬ fin = [] → i < E.c.T.length → ¬ OOF (Go.Proofs.YthmdgbmodgfcmaaGreatDoor.run E.c f (.options fin) i) → ∀ (w : World) (F : Nat → Prop) (b : Nat) (t : TypeId) (N o : Nat), Rd E w i → At ty w F b t N o [.row .stmts []] → ¬ E.own b → (∀ x, F x → ¬ E.own x) →
    Calls Tryz.prog 141 #[.pointer (some ⟨E.rb, 0, none⟩), .pointer (some ⟨b, o, none⟩), .string (strOfL fin)] w (Post E F b t N o 1 w (Go.Proofs.YthmdgbmodgfcmaaGreatDoor.run E.c f (.options fin) i))
  option : Rds E f 150 [.row .stmt []] .option
  simple : ∀ p : Nat, Rds E f 142 (stmt0 p) (.simple (stmt0 p))
  assertion : ∀ p : Nat, Rds E f 151 (stmt0 p) (.assertion (stmt0 p))
  print : ∀ p : Nat, Rds E f 152 (stmt0 p) (.print (stmt0 p))
  namedStmt : ∀ (p i : Nat), E.c.kindAt i = 1 → ¬ OOF (Go.Proofs.YthmdgbmodgfcmaaGreatDoor.run E.c f (.namedStmt (stmt0 p)) i) → Reads E 140 (stmt0 p) i (Go.Proofs.YthmdgbmodgfcmaaGreatDoor.run E.c f (.namedStmt (stmt0 p)) i)
  onVariable : ∀ (p i : Nat), E.c.kindAt i = 1 → ¬ OOF (Go.Proofs.YthmdgbmodgfcmaaGreatDoor.run E.c f (.onVariable (stmt0 p)) i) → Reads E 148 (stmt0 p) i (Go.Proofs.YthmdgbmodgfcmaaGreatDoor.run E.c f (.onVariable (stmt0 p)) i)
  received : ∀ s : List D, s.length = 28 → s[7]? = some (.bit false) → s[21]? = some (.row .arg []) → Rds E f 157 s (.received s)
  program : Rds E f 14 [.row .unit []] (.program [])
  unit : Rds E f 34 zUnit .unit
  mtypeOrDecl : ∀ p : Nat, Rds E f 60 (unit0 p) (.mtypeOrDecl (unit0 p))
  typedef : ∀ p : Nat, Rds E f 55 (unit0 p) (.typedef (unit0 p))
  proctype : ∀ p : Nat, Rds E f 56 (unit0 p) (.proctype (unit0 p))
  active : ∀ p : Nat, Rds E f 80 (splice (unit0 p) 0 [.num 4]) (.active (splice (unit0 p) 0 [.num 4]))
  inline : ∀ p : Nat, Rds E f 58 (unit0 p) (.inline (unit0 p))
  ltl : (∃ i, E.c.keyAt i = [108, 116, 108]) → ∀ p : Nat, Rds E f 59 (unit0 p) (.ltl (unit0 p))

theorem entered_of {K : FuncId} {fn : Func} {c : Code} (hf : Tryz.prog.funcs[K]? = some fn) (hname : (fn.name == "runtime.NumGoroutine") = false) (hb : fn.body = some c) : Entered K := fun args w => by
  have h1 : fn.name ≠ "runtime.NumGoroutine" := by simpa using hname
  simp [callFunc, hf, h1, hb]

theorem ent_name : Entered 78 := entered_of Tryz.func78 (by kernel_rfl) rfl
theorem ent_expr : Entered 23 := entered_of Tryz.func23 (by kernel_rfl) rfl
theorem ent_unary : Entered 64 := entered_of Tryz.func64 (by kernel_rfl) rfl
theorem ent_index : Entered 106 := entered_of Tryz.func106 (by kernel_rfl) rfl
theorem ent_arg : Entered 146 := entered_of Tryz.func146 (by kernel_rfl) rfl
theorem ent_variable : Entered 114 := entered_of Tryz.func114 (by kernel_rfl) rfl
theorem ent_plainType : Entered 112 := entered_of Tryz.func112 (by kernel_rfl) rfl
theorem ent_decl : Entered 84 := entered_of Tryz.func84 (by kernel_rfl) rfl
theorem ent_step : Entered 108 := entered_of Tryz.func108 (by kernel_rfl) rfl
theorem ent_stmt : Entered 125 := entered_of Tryz.func125 (by kernel_rfl) rfl
theorem ent_option : Entered 150 := entered_of Tryz.func150 (by kernel_rfl) rfl
theorem ent_unit : Entered 34 := entered_of Tryz.func34 (by kernel_rfl) rfl

end Go.Proofs.YthmdgbmodgfcmaaGreatDoor
/-
  What the reader's expr does.
-/
namespace Go.Proofs.YthmdgbmodgfcmaaGreatDoor
open Go.RowKit

set_option maxHeartbeats 4000000 in
theorem expr_does (E : Env) (f : Nat) (ih : Sp E f) : Rds E (f + 1) 23 zAst .expr := by
  intro i hne w F b t N o hr ha hb hF
  have hs0 : St E w F b t N o 9 w F i zAst := St.start hr ha hb hF
  obtain ⟨R, hI, hR⟩ := Is.start (run E.c (f + 1) .expr i)
  show Calls _ _ _ _ (Post E F b t N o 9 w _)
  rw [hR] at hne ⊢
  clear hR hr ha hF
  rw [run_expr] at hI
  have hl := strOfL_toList
  have hbr : ¬ b = E.rb := fun e => hb (.inl e)
  have hbr' : ¬ E.rb = b := fun e => hb (.inl e.symm)
  have hmf : ∀ (fn : Fn) (first cap : Array Value) (w : World), (Instr.makeFunc fn first cap).run Tryz.prog w = .ok (.func fn first cap) w := fun _ _ _ _ => rfl
  go_enter Tryz.func23, Tryz.ntmps23
  go_wp2_with fail
  refine (ih.operators 1 (by decide) (by decide) (i) (hI.fuel1 hne) _ _ _ _ _ _ hs0.rd hs0.cur hs0.nb hs0.nF).mono ?_
  intro e w1 hp2
  rcases hrun3 : run E.c f (.operators 1) (i) with m | ⟨d7, j4⟩
  · rw [hrun3] at hp2
    obtain rfl := hp2.1
    rw [hI.eq, hrun3]
    exact ⟨rfl, hs0.wholeBad hp2⟩
  rw [hrun3] at hp2
  obtain rfl := hp2.1
  obtain ⟨F5, hs6⟩ := hs0.whole hp2
  replace hI : Is (.ok (d7, j4)) R := by rw [hrun3] at hI; exact hI
  clear hrun3
  go_wp2_with fail
  go_returns
  rw [hI.eq]
  exact hs6.done

end Go.Proofs.YthmdgbmodgfcmaaGreatDoor
/-
  An element of a row that is read into, the others standing: laws on worlds.
-/
namespace Go.Proofs.YthmdgbmodgfcmaaGreatDoor
open Go.RowKit

/-- A zero datum's value. -/
theorem zval_of {w : World} {F : Nat → Prop} {T : Ty} {d : D} {v : Value} (hd : d ∈ zero T) (h : DIs ty w F v d) : v = zval d := by
  cases h with
  | num => rfl
  | bit => rfl
  | str => rfl
  | nil => rfl
  | row _ Fe t els g cap cur hg h0 =>
    exfalso
    have hall : (zero T).all (fun d => match d with | .row _ [] => true | .row _ _ => false | _ => true) = true := by cases T <;> rfl
    have := List.all_eq_true.1 hall _ hd
    cases els with
    | nil => simp at h0
    | cons => simp at this

theorem flat_get : ∀ {els : List (List D)} {n : Nat}, (∀ e ∈ els, e.length = n) → ∀ {j q : Nat} {e : List D}, els[j]? = some e → q < n → els.flatten[j * n + q]? = e[q]?
  | [], _, _, _, _, _, h, _ => by simp at h
  | x :: r, n, hl, 0, q, e, h, hq => by
    simp at h; subst h
    rw [List.flatten_cons, List.getElem?_append_left (by rw [hl x (by simp)]; omega)]
    simp
  | x :: r, n, hl, j + 1, q, e, h, hq => by
    simp at h
    rw [List.flatten_cons, List.getElem?_append_right (by rw [hl x (by simp), Nat.succ_mul]; omega), hl x (by simp)]
    rw [show (j + 1) * n + q - n = j * n + q by rw [Nat.succ_mul]; omega]
    exact flat_get (fun e he => hl e (by simp [he])) h hq

theorem flat_set : ∀ {els : List (List D)} {n : Nat}, (∀ e ∈ els, e.length = n) → ∀ {j : Nat} {e : List D}, e.length = n → ∀ (p : Nat), (els.set j e).flatten[p]? = if j * n ≤ p ∧ p < (j + 1) * n ∧ j < els.length then e[p - j * n]? else els.flatten[p]?
  | [], n, _, j, e, _, p => by simp
  | x :: r, n, hl, 0, e, he, p => by
    have hx := hl x (by simp)
    simp only [List.set_cons_zero, List.flatten_cons, Nat.zero_mul, Nat.zero_le, Nat.zero_add, Nat.one_mul, Nat.sub_zero, List.length_cons, Nat.zero_lt_succ, and_true, true_and]
    by_cases hp : p < n
    · rw [if_pos hp, List.getElem?_append_left (by omega)]
    · rw [if_neg hp, List.getElem?_append_right (by omega), List.getElem?_append_right (by omega), he, hx]
  | x :: r, n, hl, j + 1, e, he, p => by
    have hx := hl x (by simp)
    have ih := flat_set (els := r) (fun e he => hl e (by simp [he])) (j := j) he (p - n)
    simp only [List.set_cons_succ, List.flatten_cons, List.length_cons, Nat.add_lt_add_iff_right]
    have e1 : (j + 1) * n = j * n + n := Nat.succ_mul j n
    have e2 : (j + 1 + 1) * n = j * n + n + n := by rw [Nat.succ_mul, Nat.succ_mul]
    by_cases hp : p < n
    · rw [List.getElem?_append_left (by omega), List.getElem?_append_left (by omega), if_neg (by omega)]
    · rw [List.getElem?_append_right (by omega), List.getElem?_append_right (by omega), hx, ih]
      by_cases hc : j * n ≤ p - n ∧ p - n < (j + 1) * n ∧ j < r.length
      · rw [if_pos hc, if_pos (by omega)]; congr 1; omega
      · rw [if_neg hc, if_neg (by omega)]

section
variable {E : Env} {w0 w : World} {F0 F : Nat → Prop} {b : Nat} {t : TypeId} {N o k i : Nat} {ds : List D}

theorem St.elem (h : St E w0 F0 b t N o k w F i ds) (q : Nat) (T : Ty) (els : List (List D)) (hq : ds[q]? = some (.row T els)) (j : Nat) (hj : els[j]? = some (zero T)) :
    ∃ g cap, w.cell? ⟨b, o + q, none⟩ = some (.slice (some ⟨g, 0, none⟩) els.length cap) ∧ At ty w (fun _ => False) g (ty.id T) (cap * ty.size T) (j * ty.size T) (zero T) ∧ ¬ E.own g ∧
      (∀ (ds' : List D) (i' : Nat) (e : Ending) (w1 : World), Post E (fun _ => False) g (ty.id T) (cap * ty.size T) (j * ty.size T) (ty.size T) w (.ok (ds', i')) e w1 → ∃ F', St E w0 F0 b t N o k w1 F' i' (ds.set q (.row T (els.set j ds')))) ∧
      (∀ (m : Mis) (e : Ending) (w1 : World), Post E (fun _ => False) g (ty.id T) (cap * ty.size T) (j * ty.size T) (ty.size T) w (.error m) e w1 → Post E F0 b t N o k w0 (.error m) e w1) := by
  obtain ⟨cs, fp, h1, h2, h3, h4, h5⟩ := h.cur.ex
  obtain ⟨v, hv, hdv⟩ := h3 q _ hq
  have hjl : j < els.length := (List.getElem?_eq_some_iff.1 hj).1
  have hql : q < ds.length := (List.getElem?_eq_some_iff.1 hq).1
  have hroom := h.cur.room
  cases hdv with
  | nil => simp at hjl
  | row _ Fe _ _ g cap cur hg h0 hn hc hs hel hF hFe hcells hd =>
    have hgF : F g := h4 q g hF
    have hgb : ¬ g = b := fun e => h.cur.nb (by rw [← e]; exact hgF)
    have hsz := zero_size T
    have hle : (j + 1) * ty.size T ≤ cap * ty.size T := Nat.mul_le_mul_right _ (by omega)
    rw [Nat.succ_mul] at hle
    have hmvF : ∀ x, (x = E.rb ∨ x = g ∨ False) → (x = E.rb ∨ x = b ∨ F0 x) ∨ w0.heap.size ≤ x := fun x hx => by
      rcases hx with hx | rfl | hx
      · exact .inl (.inl hx)
      · exact (h.fr _ hgF).elim (fun h => .inl (.inr (.inr h))) .inr
      · exact hx.elim
    refine ⟨g, cap, by rw [cell_blk h1]; exact hv, ⟨⟨cur, fun _ _ => False, hg, hs, fun p d hp => ?_, fun _ _ h => h, fun _ _ _ h => h.elim⟩, by rw [hsz]; exact hle, fun h => h, fun _ h => h.elim⟩, h.nF g hgF, fun ds' i' e w1 hp => ?_, fun m e w1 hp => ⟨hp.1, h.mv.trans hp.2 hmvF⟩⟩
    · have hpl : p < ty.size T := by rw [← hsz]; exact (List.getElem?_eq_some_iff.1 hp).1
      have hfl : els.flatten[j * ty.size T + p]? = some d := by rw [flat_get hel hj hpl]; exact hp
      obtain ⟨u, hu⟩ := hcells _ _ hfl
      have hdu := hd _ _ _ hfl hu
      have hmem := List.mem_of_getElem? hp
      have := zval_of hmem hdu
      subst this
      exact ⟨_, hu, zval_is _ _ _ T d hmem⟩
    · obtain ⟨he, hr, hl, ⟨F', ha', hF'⟩, hm, ho⟩ := hp
      have hFn : ∀ x, F' x → w.heap.size ≤ x := fun x hx => (hF' x hx).elim (fun h => h.elim) id
      have hrb : ¬ b = E.rb := fun e => h.nb (.inl e)
      have hb1 : w1.heap[b]? = some (.cells cs t (0, 0)) := hm.heap h1 (by
        rintro (e | e | e)
        · exact hrb e
        · exact hgb e.symm
        · exact e)
      obtain ⟨cur1, fp1, hg1, hz1, hc1, hf1, _⟩ := ha'.ex
      have hother : ∀ x, F x → x ≠ g → ¬ (x = E.rb ∨ x = g ∨ False) := fun x hx hne => by
        rintro (e | e | e)
        · exact h.nF x hx (.inl e)
        · exact hne e
        · exact e
      have hlen' : (els.set j ds').length = els.length := by simp
      have hdis : DIs ty w1 (fun x => fp q x ∨ F' x) (.slice (some ⟨g, 0, none⟩) els.length cap) (.row T (els.set j ds')) := by
        rw [← hlen']
        refine DIs.of_block (Fe := fun x => Fe x ∨ F' x) hg1 (by rw [hlen']; exact h0) (by rw [hlen']; exact hn) hc hz1 (fun e he => ?_) (.inl hF) (fun x hx => ?_) (fun p d hp => ?_)
        · rcases List.mem_or_eq_of_mem_set he with he | rfl
          · exact hel e he
          · exact hl
        · rcases hx with hx | hx
          · exact ⟨.inl (hFe x hx).1, (hFe x hx).2⟩
          · exact ⟨.inr hx, by have := hFn x hx; have := lt_of_block hg; omega⟩
        · rw [flat_set hel hl] at hp
          split at hp
          · rename_i hin
            obtain ⟨u, hu, hdu⟩ := hc1 _ d hp
            exact ⟨u, by rw [← hu]; congr 1; omega, hdu.mono (fun x hx => .inr (hf1 _ x hx))⟩
          · rename_i hin
            obtain ⟨u, hu⟩ := hcells p d hp
            have hdu := hd p d u hp hu
            refine ⟨u, ?_, (hdu.kept fun x hx hlt => hm.block x hlt (hother x (h4 q x (hFe x hx).1) (hFe x hx).2)).mono (fun x hx => .inl hx)⟩
            have := ho p (by rw [Nat.succ_mul] at hin; omega)
            rw [cell_blk hg1, cell_blk hg, hu] at this
            exact this
      refine ⟨fun x => F x ∨ F' x, hr, ⟨⟨cs, fun p x => if p = q then fp q x ∨ F' x else fp p x, hb1, h2, fun p d hp => ?_, fun p x hx => ?_, fun p p' x hx hx' => ?_⟩, by simpa using hroom, ?_, ?_⟩, by simpa using h.len, h.mv.trans hm hmvF, fun y hy => ?_, ?_, h.nb, ?_, h.nF0⟩
      · by_cases hpq : p = q
        · subst hpq
          rw [List.getElem?_set_self hql] at hp
          cases hp
          exact ⟨_, hv, hdis.mono (fun x hx => Eq.mpr (if_pos rfl) hx)⟩
        · rw [List.getElem?_set_ne (Ne.symm hpq)] at hp
          obtain ⟨u, hu, hdu⟩ := h3 p d hp
          refine ⟨u, hu, (hdu.kept fun x hx hlt => hm.block x hlt (hother x (h4 p x hx) fun e => ?_)).mono (fun x hx => Eq.mpr (if_neg hpq) hx)⟩
          subst e
          exact hpq (h5 p q _ hx hF)
      · simp only at hx
        split at hx
        · exact hx.elim (fun hx => .inl (h4 q x hx)) .inr
        · exact .inl (h4 p x hx)
      · simp only at hx hx'
        split at hx <;> split at hx'
        · omega
        · rename_i ha hb
          rcases hx with hx | hx
          · have := h5 _ _ x hx hx'; omega
          · have := h.cur.lt x (h4 _ x hx'); have := hFn x hx; omega
        · rename_i ha hb
          rcases hx' with hx' | hx'
          · have := h5 _ _ x hx hx'; omega
          · have := h.cur.lt x (h4 _ x hx); have := hFn x hx'; omega
        · exact h5 _ _ x hx hx'
      · rintro (hx | hx)
        · exact h.cur.nb hx
        · have := hFn _ hx; have := h.cur.blt; omega
      · rintro x (hx | hx)
        · exact Nat.lt_of_lt_of_le (h.cur.lt x hx) hm.size
        · exact ha'.lt x hx
      · have e1 : w1.cell? ⟨b, y, none⟩ = w.cell? ⟨b, y, none⟩ := by rw [cell_blk hb1, cell_blk h1]
        exact e1.trans (h.out y hy)
      · rintro x (hx | hx)
        · exact h.fr x hx
        · exact .inr (Nat.le_trans h.mv.size (hFn x hx))
      · rintro x (hx | hx)
        · exact h.nF x hx
        · have := hFn x hx
          rintro (rfl | rfl | rfl)
          · have := h.rd.rlt; omega
          · have := h.rd.wlt; omega
          · have := h.rd.tn.lt; omega
end

end Go.Proofs.YthmdgbmodgfcmaaGreatDoor
/-
  What the reader's run does.
-/
namespace Go.Proofs.YthmdgbmodgfcmaaGreatDoor
open Go.RowKit

set_option maxHeartbeats 4000000 in
theorem run_does (E : Env) (f : Nat) (ih : Sp E f) : Rds E (f + 1) 118 zAst .run := by
  intro i hne w F b t N o hr ha hb hF
  have hs0 : St E w F b t N o 9 w F i zAst := St.start hr ha hb hF
  obtain ⟨R, hI, hR⟩ := Is.start (run E.c (f + 1) .run i)
  show Calls _ _ _ _ (Post E F b t N o 9 w _)
  rw [hR] at hne ⊢
  clear hR hr ha hF
  rw [run_run] at hI
  have hl := strOfL_toList
  have hbr : ¬ b = E.rb := fun e => hb (.inl e)
  have hbr' : ¬ E.rb = b := fun e => hb (.inl e.symm)
  have hmf : ∀ (fn : Fn) (first cap : Array Value) (w : World), (Instr.makeFunc fn first cap).run Tryz.prog w = .ok (.func fn first cap) w := fun _ _ _ _ => rfl
  go_enter Tryz.func118, Tryz.ntmps118
  go_wp2_with fail
  rcases (Decidable.em (E.c.keyAt (i) = [114, 117, 110])).symm with h1 | h1
  · refine (need_no E (i) _ hs0.rd [114, 117, 110] h1).mono ?_
    rintro e w2 ⟨rfl, hm4⟩
    rw [hI.nno h1]
    exact ⟨rfl, hs0.bad hm4 _⟩
  refine (need_yes E (i) _ hs0.rd [114, 117, 110] h1 (by decide)).mono ?_
  rintro e w2 ⟨rfl, hr3, hm4⟩
  have hs5 := hs0.goes hr3 hm4
  replace hI := hI.nyes h1
  obtain ⟨v6, c7, _⟩ := hs5.cur.cell 0 _ rfl
  simp only [Nat.add_zero] at c7
  have fz8 := hs5.cur.free (o)
  go_wp2_with fail
  have hs9 := hs5.set0 (by decide) (.int .i64 8) (.num 8) (fun _ => .num _ _)
  obtain ⟨Fi17, hat18, hown19, hok20, hbad21⟩ := hs9.call 2 1 (by decide)
  refine (ih.name [] (i + 1) (hI.fuel hne) _ Fi17 _ _ _ (o + 2) hs9.rd hat18 hs9.nb hown19).mono ?_
  intro e w10 hp11
  rcases hrun12 : run E.c f .name (i + 1) with m | ⟨d16, j13⟩
  · rw [hrun12] at hp11
    obtain rfl := hp11.1
    rw [hI.err hrun12]
    exact ⟨rfl, hbad21 _ _ _ hp11⟩
  rw [hrun12] at hp11
  obtain rfl := hp11.1
  obtain ⟨d16x0, rfl⟩ := len1 hp11.2.2.1
  obtain ⟨F14, hs15⟩ := hok20 _ _ _ _ hp11
  replace hI := hI.ok hrun12
  clear hrun12
  go_wp2_with fail
  obtain ⟨Fi29, hat30, hown31, hok32, hbad33⟩ := hs15.call 7 1 (by decide)
  refine (ih.inParAst (j13) (hI.fuel hne) _ Fi29 _ _ _ (o + 7) hs15.rd hat30 hs15.nb hown31).mono ?_
  intro e w22 hp23
  rcases hrun24 : run E.c f (.inParens .expr .ast) (j13) with m | ⟨d28, j25⟩
  · rw [hrun24] at hp23
    obtain rfl := hp23.1
    rw [hI.err hrun24]
    exact ⟨rfl, hbad33 _ _ _ hp23⟩
  rw [hrun24] at hp23
  obtain rfl := hp23.1
  obtain ⟨d28x0, rfl⟩ := len1 hp23.2.2.1
  obtain ⟨F26, hs27⟩ := hok32 _ _ _ _ hp23
  replace hI := hI.ok hrun24
  clear hrun24
  go_wp2_with fail
  go_returns
  rw [hI.eq]
  exact hs27.done

end Go.Proofs.YthmdgbmodgfcmaaGreatDoor
