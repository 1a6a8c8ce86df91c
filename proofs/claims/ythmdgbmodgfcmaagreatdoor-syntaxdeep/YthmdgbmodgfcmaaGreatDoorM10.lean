/-
  SName, SSpec, SXExpr, SElem, SWrap, SXPrimary, SXParens, SXCond, SXRun, SXLength, SXLabel, SXPoll, SGrow, SXIndex, SXArg, SXInParensString, SXInParensAst, SXInBracesString, SXInBracesInt, SXPlainType, SXDecl, SXVariable, SXBeginning, SXBody, SXStmt, SXOption, SXSimple, SXAssertion, SXPrint, SXOnVariable, SXReceived, SXUnit, SXMtypeOrDecl, SXTypedef, SXActive, SXInline, SDep.
-/
import Derived.Deep.AppendLies
import Derived.Deep.QuietTactic
import Derived.Laws.NewBlocks
import Derived.Test.YthmdgbmodgfcmaaGreatDoorM5
import Derived.Test.YthmdgbmodgfcmaaGreatDoorM8
/-
  What name does: a name is read into a cell.
-/
namespace Go.Proofs.YthmdgbmodgfcmaaGreatDoor
open Go.RowKit

set_option maxHeartbeats 1000000 in
theorem name_reads (E : Env) (f i : Nat) (s0 : List UInt8) : Reads E 78 [.str s0] i (run E.c (f + 1) .name i) := by
  intro w F b t N o hr ha hb hF
  have hs := St.start hr ha hb hF
  have hob := ha.str 0 rfl
  have hbb : b ≠ E.rb := fun e => hb (.inl e)
  rw [run_name]
  by_cases hk : E.c.kindAt i = 1
  · rw [if_pos hk]
    obtain ⟨tk, ht, _, htx, _, hlt⟩ := Cx.some_of_kind hk (by decide)
    rw [htx]
    go_enter Tryz.func78, Tryz.ntmps78
    go_wp2_with fail
    refine (next_yes E i _ hr 1 hk (by decide)).mono ?_
    rintro e w1 ⟨rfl, hr1, hm⟩
    have hs1 := hs.goes hr1 hm
    have w1' := (hr1.words i tk ht).2.1
    have c0 := hs1.cur.str 0 rfl
    have f0 := hs1.cur.free o
    simp only [Nat.add_zero] at c0
    clear hob
    go_wp2_with fail
    go_returns
    have := (hs1.set 0 (by simp) (.string (strOfL tk.text)) (.str tk.text) (fun _ => .str _ _)).done
    simpa using this
  · rw [if_neg hk]
    go_enter Tryz.func78, Tryz.ntmps78
    go_wp2_with fail
    refine (next_no E i _ hr 1 hk).mono ?_
    rintro e w1 ⟨rfl, hm⟩
    go_wp2_with fail
    exact ⟨rfl, hs.bad hm _⟩

end Go.Proofs.YthmdgbmodgfcmaaGreatDoor
/-
  What each function of the reader does, as one statement on fuel: for the induction.
-/
namespace Go.Proofs.YthmdgbmodgfcmaaGreatDoor
open Go.RowKit

/-- There was no fuel. -/
abbrev OOF (r : Res) : Prop := r = .error (0, 0)

theorem bnd_fuel {r : Res} {k : List D → Nat → Res} (h : ¬ OOF (bnd r k)) : ¬ OOF r := fun e => h (by unfold OOF at *; rw [e]; rfl)

theorem len1 {l : List D} (h : l.length = 1) : ∃ a, l = [a] := by
  match l, h with
  | [a], _ => exact ⟨a, rfl⟩
theorem len3 {l : List D} (h : l.length = 3) : ∃ a b c, l = [a, b, c] := by
  match l, h with
  | [a, b, c], _ => exact ⟨a, b, c, rfl⟩
theorem len4 {l : List D} (h : l.length = 4) : ∃ a b c d, l = [a, b, c, d] := by
  match l, h with
  | [a, b, c, d], _ => exact ⟨a, b, c, d, rfl⟩
theorem len9 {l : List D} (h : l.length = 9) : ∃ a0 a1 a2 a3 a4 a5 a6 a7 a8, l = [a0, a1, a2, a3, a4, a5, a6, a7, a8] := by
  match l, h with
  | [a0, a1, a2, a3, a4, a5, a6, a7, a8], _ => exact ⟨a0, a1, a2, a3, a4, a5, a6, a7, a8, rfl⟩

theorem len23 {l : List D} (h : l.length = 23) (hd : l.drop 11 = zVar.drop 11) : ∃ a0 a1 a2 a3 a4 a5 a6 a7 a8 a9 a10, l = a0 :: a1 :: a2 :: a3 :: a4 :: a5 :: a6 :: a7 :: a8 :: a9 :: a10 :: zVar.drop 11 := by
  match l, h with
  | a0 :: a1 :: a2 :: a3 :: a4 :: a5 :: a6 :: a7 :: a8 :: a9 :: a10 :: r, _ => exact ⟨a0, a1, a2, a3, a4, a5, a6, a7, a8, a9, a10, by rw [← hd]; rfl⟩
theorem len28 {l : List D} (h : l.length = 28) : ∃ a0 a1 a2 a3 a4 a5 a6 a7 a8 a9 a10 a11 a12 a13 a14 a15 a16 a17 a18 a19 a20 a21 a22 a23 a24 a25 a26 a27, l = [a0, a1, a2, a3, a4, a5, a6, a7, a8, a9, a10, a11, a12, a13, a14, a15, a16, a17, a18, a19, a20, a21, a22, a23, a24, a25, a26, a27] := by
  match l, h with
  | [a0, a1, a2, a3, a4, a5, a6, a7, a8, a9, a10, a11, a12, a13, a14, a15, a16, a17, a18, a19, a20, a21, a22, a23, a24, a25, a26, a27], _ => exact ⟨a0, a1, a2, a3, a4, a5, a6, a7, a8, a9, a10, a11, a12, a13, a14, a15, a16, a17, a18, a19, a20, a21, a22, a23, a24, a25, a26, a27, rfl⟩

theorem name_yes (E : Env) (i : Nat) (s0 : List UInt8) (hk : E.c.kindAt i = 1) : Reads E 78 [.str s0] i (.ok ([.str (E.c.textAt i)], i + 1)) := by
  have := name_reads E 0 i s0
  rw [run_name, if_pos hk] at this
  exact this

/-- What is still to be read comes to R. (An equation that the walk doesn't see.) -/
def Is (a R : Res) : Prop := a = R
theorem Is.start (a : Res) : ∃ R, Is a R ∧ a = R := ⟨a, rfl, rfl⟩
theorem Is.fuel {r R : Res} {k : List D → Nat → Res} (h : Is (bnd r k) R) (hne : ¬ OOF R) : ¬ OOF r := fun e => hne (by have h' : bnd r k = R := h; rw [← h', e]; rfl)
theorem Is.ok {r R : Res} {k : List D → Nat → Res} (h : Is (bnd r k) R) {d : List D} {a : Nat} (e : r = .ok (d, a)) : Is (k d a) R := by subst e; exact h
theorem Is.err {r R : Res} {k : List D → Nat → Res} (h : Is (bnd r k) R) {m : Mis} (e : r = .error m) : R = .error m := by subst e; exact (show _ = R from h).symm
theorem Is.pos {p : Prop} [Decidable p] {a b R : Res} (h : Is (if p then a else b) R) (hp : p) : Is a R := by rw [if_pos hp] at h; exact h
theorem Is.neg {p : Prop} [Decidable p] {a b R : Res} (h : Is (if p then a else b) R) (hp : ¬ p) : Is b R := by rw [if_neg hp] at h; exact h
theorem Is.nyes {c : Cx} {s : List UInt8} {i : Nat} {k : Nat → Res} {R : Res} (h : Is (need c s i k) R) (hk : c.keyAt i = s) : Is (k (i + 1)) R := Is.pos h hk
theorem Is.nno {c : Cx} {s : List UInt8} {i : Nat} {k : Nat → Res} {R : Res} (h : Is (need c s i k) R) (hk : ¬ c.keyAt i = s) : R = .error (c.refuse i) := (show _ = R from Is.neg h hk).symm
theorem fuel_pos {c : Cx} {f : Nat} {g : Goal} {i : Nat} (h : ¬ OOF (run c f g i)) : ∃ f', f = f' + 1 := by
  cases f with
  | zero => exact absurd rfl h
  | succ f => exact ⟨f, rfl⟩
theorem Is.eq {a R : Res} (h : Is a R) : R = a := (show a = R from h).symm
theorem Is.fuel1 {r R : Res} (h : Is r R) (hne : ¬ OOF R) : ¬ OOF r := by rw [h.eq] at hne; exact hne

def ptr (E : Env) : Value := .pointer (some ⟨E.rb, 0, none⟩)
def fnv (E : Env) (K : FuncId) : Value := .func (.func K) #[.pointer (some ⟨E.rb, 0, none⟩)] #[]

def Rds (E : Env) (f : Nat) (K : FuncId) (pre : List D) (g : Goal) : Prop := ∀ i, ¬ OOF (run E.c f g i) → Reads E K pre i (run E.c f g i)

/-- Functions with a row's pointer and what reads one. -/
def RowRds (E : Env) (f : Nat) (K one : FuncId) (t : Ty) (els : List (List D)) (g : Goal) : Prop := ∀ (i : Nat), ¬ OOF (run E.c f g i) →
  ∀ (w : World) (F : Nat → Prop) (b : Nat) (tt : TypeId) (N o : Nat), Rd E w i → At ty w F b tt N o [.row t els] → ¬ E.own b → (∀ x, F x → ¬ E.own x) →
    Calls Tryz.prog K #[.pointer (some ⟨E.rb, 0, none⟩), .pointer (some ⟨b, o, none⟩), .func (.func one) #[.pointer (some ⟨E.rb, 0, none⟩)] #[]] w (Post E F b tt N o 1 w (run E.c f g i))

/-- A variable's cells. -/
def rf (ns : List (List UInt8)) (ix : List (List D)) (hs : List Bool) : List D := [.row .str (ns.map fun s => [.str s]), .row .ast ix, .row .bool (hs.map fun b => [.bit b])]

abbrev stmt0 (p : Nat) : List D := splice zStmt 1 [.num (p : Int)]
abbrev unit0 (p : Nat) : List D := splice zUnit 1 [.num (p : Int)]

/-- All that the reader's functions do, with so much fuel. -/
structure Sp (E : Env) (f : Nat) : Prop where
  name : ∀ s0 : List UInt8, Rds E f 78 [.str s0] .name
  expr : Rds E f 23 zAst .expr
  operators : ∀ (least : Nat), 1 ≤ least → least ≤ 11 → ∀ i, ¬ OOF (run E.c f (.operators least) i) → ∀ (w : World) (F : Nat → Prop) (b : Nat) (t : TypeId) (N o : Nat), Rd E w i → At ty w F b t N o zAst → ¬ E.own b → (∀ x, F x → ¬ E.own x) →
    Calls Tryz.prog 44 #[.pointer (some ⟨E.rb, 0, none⟩), .pointer (some ⟨b, o, none⟩), .int .i64 (least : Int)] w (Post E F b t N o 9 w (run E.c f (.operators least) i))
  unary : Rds E f 64 zAst .unary
  primary : Rds E f 92 zAst .primary
  parens : Rds E f 117 zAst .parens
  cond : ∀ e : List D, e.length = 9 → Rds E f 136 e (.cond e)
  run : Rds E f 118 zAst .run
  length : ∀ i, E.c.kindAt i = 4 → ¬ OOF (Go.Proofs.YthmdgbmodgfcmaaGreatDoor.run E.c f .length i) → Reads E 119 zAst i (Go.Proofs.YthmdgbmodgfcmaaGreatDoor.run E.c f .length i)
  named : Rds E f 116 zAst .named
  label : ∀ (s : List UInt8) (ix : List (List D)) (hs : List Bool), Rds E f 133 (splice zAst 4 (rf [s] ix hs)) (.label (aRef (rf [s] ix hs)))
  poll : ∀ (ns : List (List UInt8)) (ix : List (List D)) (hs : List Bool) (i : Nat), E.c.kindAt i = 4 → ¬ OOF (Go.Proofs.YthmdgbmodgfcmaaGreatDoor.run E.c f (.poll (aRef (rf ns ix hs))) i) → Reads E 135 (splice zAst 4 (rf ns ix hs)) i (Go.Proofs.YthmdgbmodgfcmaaGreatDoor.run E.c f (.poll (aRef (rf ns ix hs))) i)
  ref : Rds E f 132 zRef .ref
  part : ∀ (ns : List (List UInt8)) (ix : List (List D)) (hs : List Bool), ns.length + f ≤ 1000000 → ix.length = ns.length → hs.length = ns.length → Rds E f 144 (rf ns ix hs) (.part (rf ns ix hs))
  index : Rds E f 106 zAst .index
  arg : Rds E f 146 zArg .arg
  rowStr : ∀ els : List (List D), els.length + f ≤ 1000000 → RowRds E f 110 78 .str els (.row .name .str els)
  rowAst : ∀ els : List (List D), els.length + f ≤ 1000000 → RowRds E f 147 23 .ast els (.row .expr .ast els)
  rowArg : ∀ els : List (List D), els.length + f ≤ 1000000 → RowRds E f 155 146 .arg els (.row .arg .arg els)
  rowVar : ∀ els : List (List D), els.length + f ≤ 1000000 → RowRds E f 113 114 .var els (.row .variable .var els)
  rowInt : ∀ els : List (List D), els.length + f ≤ 1000000 → RowRds E f 153 112 .int els (.row .plainType .int els)
  inParStr : RowRds E f 82 78 .str [] (.inParens .name .str)
  inParAst : RowRds E f 137 23 .ast [] (.inParens .expr .ast)
  inBrStr : RowRds E f 85 78 .str [] (.inBraces .name .str)
  inBrInt : RowRds E f 143 112 .int [] (.inBraces .plainType .int)
  msgAst : RowRds E f 156 23 .ast [] (.message .expr .ast)
  msgArg : RowRds E f 145 146 .arg [] (.message .arg .arg)
  plainType : Rds E f 112 [.num 0] .plainType
  decls : Rds E f 79 [.row .decl []] .decls
  decl : Rds E f 84 zDecl .decl
  vari : Rds E f 114 zVar .variable
  beginning : ∀ v : List D, v.length = 23 → v.drop 11 = zVar.drop 11 → Rds E f 131 v (.beginning v)
  body : Rds E f 57 [.row .stmt []] .body
  steps : Rds E f 81 [.row .stmt []] .steps
  step : Rds E f 108 zStmt .step
  unles : (∃ i, E.c.keyAt i = [117, 110, 108, 101, 115, 115]) → ∀ (s : List D) (p : Int), s.length = 28 → s[1]? = some (.num p) → Rds E f 126 s (.unless s)
  stmt : Rds E f 125 zStmt .stmt
  options : ∀ (fin : List UInt8) (i : Nat), ¬ fin = [] → i < E.c.T.length → ¬ OOF (Go.Proofs.YthmdgbmodgfcmaaGreatDoor.run E.c f (.options fin) i) → ∀ (w : World) (F : Nat → Prop) (b : Nat) (t : TypeId) (N o : Nat), Rd E w i → At ty w F b t N o [.row .stmts []] → ¬ E.own b → (∀ x, F x → ¬ E.own x) →
    Calls Tryz.prog 141 #[.pointer (some ⟨E.rb, 0, none⟩), .pointer (some ⟨b, o, none⟩), .string (strOfL fin)] w (Post E F b t N o 1 w (Go.Proofs.YthmdgbmodgfcmaaGreatDoor.run E.c f (.options fin) i))
  option : Rds E f 150 [.row .stmt []] .option
  simple : ∀ p : Nat, Rds E f 142 (stmt0 p) (.simple (stmt0 p))
  assertion : ∀ p : Nat, Rds E f 151 (stmt0 p) (.assertion (stmt0 p))
  print : ∀ p : Nat, Rds E f 152 (stmt0 p) (.print (stmt0 p))
  namedStmt : ∀ (p i : Nat), E.c.kindAt i = 1 → ¬ OOF (Go.Proofs.YthmdgbmodgfcmaaGreatDoor.run E.c f (.namedStmt (stmt0 p)) i) → Reads E 140 (stmt0 p) i (Go.Proofs.YthmdgbmodgfcmaaGreatDoor.run E.c f (.namedStmt (stmt0 p)) i)
  onVariable : ∀ (p i : Nat), E.c.kindAt i = 1 → ¬ OOF (Go.Proofs.YthmdgbmodgfcmaaGreatDoor.run E.c f (.onVariable (stmt0 p)) i) → Reads E 148 (stmt0 p) i (Go.Proofs.YthmdgbmodgfcmaaGreatDoor.run E.c f (.onVariable (stmt0 p)) i)
  received : ∀ s : List D, s.length = 28 → s[7]? = some (.bit false) → s[21]? = some (.row .arg []) → Rds E f 157 s (.received s)
  program : Rds E f 14 [.row .unit []] (.program [])
  unit : Rds E f 34 zUnit .unit
  mtypeOrDecl : ∀ p : Nat, Rds E f 60 (unit0 p) (.mtypeOrDecl (unit0 p))
  typedef : ∀ p : Nat, Rds E f 55 (unit0 p) (.typedef (unit0 p))
  proctype : ∀ p : Nat, Rds E f 56 (unit0 p) (.proctype (unit0 p))
  active : ∀ p : Nat, Rds E f 80 (splice (unit0 p) 0 [.num 4]) (.active (splice (unit0 p) 0 [.num 4]))
  inline : ∀ p : Nat, Rds E f 58 (unit0 p) (.inline (unit0 p))
  ltl : (∃ i, E.c.keyAt i = [108, 116, 108]) → ∀ p : Nat, Rds E f 59 (unit0 p) (.ltl (unit0 p))

theorem entered_of {K : FuncId} {fn : Func} {c : Code} (hf : Tryz.prog.funcs[K]? = some fn) (hname : (fn.name == "runtime.NumGoroutine") = false) (hb : fn.body = some c) : Entered K := fun args w => by
  have h1 : fn.name ≠ "runtime.NumGoroutine" := by simpa using hname
  simp [callFunc, hf, h1, hb]

theorem ent_name : Entered 78 := entered_of Tryz.func78 (by kernel_rfl) rfl
theorem ent_expr : Entered 23 := entered_of Tryz.func23 (by kernel_rfl) rfl
theorem ent_unary : Entered 64 := entered_of Tryz.func64 (by kernel_rfl) rfl
theorem ent_index : Entered 106 := entered_of Tryz.func106 (by kernel_rfl) rfl
theorem ent_arg : Entered 146 := entered_of Tryz.func146 (by kernel_rfl) rfl
theorem ent_variable : Entered 114 := entered_of Tryz.func114 (by kernel_rfl) rfl
theorem ent_plainType : Entered 112 := entered_of Tryz.func112 (by kernel_rfl) rfl
theorem ent_decl : Entered 84 := entered_of Tryz.func84 (by kernel_rfl) rfl
theorem ent_step : Entered 108 := entered_of Tryz.func108 (by kernel_rfl) rfl
theorem ent_stmt : Entered 125 := entered_of Tryz.func125 (by kernel_rfl) rfl
theorem ent_option : Entered 150 := entered_of Tryz.func150 (by kernel_rfl) rfl
theorem ent_unit : Entered 34 := entered_of Tryz.func34 (by kernel_rfl) rfl

end Go.Proofs.YthmdgbmodgfcmaaGreatDoor
/-
  What the reader's expr does.
-/
namespace Go.Proofs.YthmdgbmodgfcmaaGreatDoor
open Go.RowKit

set_option maxHeartbeats 4000000 in
theorem expr_does (E : Env) (f : Nat) (ih : Sp E f) : Rds E (f + 1) 23 zAst .expr := by
  intro i hne w F b t N o hr ha hb hF
  have hs0 : St E w F b t N o 9 w F i zAst := St.start hr ha hb hF
  obtain ⟨R, hI, hR⟩ := Is.start (run E.c (f + 1) .expr i)
  show Calls _ _ _ _ (Post E F b t N o 9 w _)
  rw [hR] at hne ⊢
  clear hR hr ha hF
  rw [run_expr] at hI
  have hl := strOfL_toList
  have hbr : ¬ b = E.rb := fun e => hb (.inl e)
  have hbr' : ¬ E.rb = b := fun e => hb (.inl e.symm)
  have hmf : ∀ (fn : Fn) (first cap : Array Value) (w : World), (Instr.makeFunc fn first cap).run Tryz.prog w = .ok (.func fn first cap) w := fun _ _ _ _ => rfl
  go_enter Tryz.func23, Tryz.ntmps23
  go_wp2_with fail
  refine (ih.operators 1 (by decide) (by decide) (i) (hI.fuel1 hne) _ _ _ _ _ _ hs0.rd hs0.cur hs0.nb hs0.nF).mono ?_
  intro e w1 hp2
  rcases hrun3 : run E.c f (.operators 1) (i) with m | ⟨d7, j4⟩
  · rw [hrun3] at hp2
    obtain rfl := hp2.1
    rw [hI.eq, hrun3]
    exact ⟨rfl, hs0.wholeBad hp2⟩
  rw [hrun3] at hp2
  obtain rfl := hp2.1
  obtain ⟨F5, hs6⟩ := hs0.whole hp2
  replace hI : Is (.ok (d7, j4)) R := by rw [hrun3] at hI; exact hI
  clear hrun3
  go_wp2_with fail
  go_returns
  rw [hI.eq]
  exact hs6.done

end Go.Proofs.YthmdgbmodgfcmaaGreatDoor
/-
  An element of a row that is read into, the others standing: laws on worlds.
-/
namespace Go.Proofs.YthmdgbmodgfcmaaGreatDoor
open Go.RowKit

/-- A zero datum's value. -/
theorem zval_of {w : World} {F : Nat → Prop} {T : Ty} {d : D} {v : Value} (hd : d ∈ zero T) (h : DIs ty w F v d) : v = zval d := by
  cases h with
  | num => rfl
  | bit => rfl
  | str => rfl
  | nil => rfl
  | row _ Fe t els g cap cur hg h0 =>
    exfalso
    have hall : (zero T).all (fun d => match d with | .row _ [] => true | .row _ _ => false | _ => true) = true := by cases T <;> rfl
    have := List.all_eq_true.1 hall _ hd
    cases els with
    | nil => simp at h0
    | cons => simp at this

theorem flat_get : ∀ {els : List (List D)} {n : Nat}, (∀ e ∈ els, e.length = n) → ∀ {j q : Nat} {e : List D}, els[j]? = some e → q < n → els.flatten[j * n + q]? = e[q]?
  | [], _, _, _, _, _, h, _ => by simp at h
  | x :: r, n, hl, 0, q, e, h, hq => by
    simp at h; subst h
    rw [List.flatten_cons, List.getElem?_append_left (by rw [hl x (by simp)]; omega)]
    simp
  | x :: r, n, hl, j + 1, q, e, h, hq => by
    simp at h
    rw [List.flatten_cons, List.getElem?_append_right (by rw [hl x (by simp), Nat.succ_mul]; omega), hl x (by simp)]
    rw [show (j + 1) * n + q - n = j * n + q by rw [Nat.succ_mul]; omega]
    exact flat_get (fun e he => hl e (by simp [he])) h hq

theorem flat_set : ∀ {els : List (List D)} {n : Nat}, (∀ e ∈ els, e.length = n) → ∀ {j : Nat} {e : List D}, e.length = n → ∀ (p : Nat), (els.set j e).flatten[p]? = if j * n ≤ p ∧ p < (j + 1) * n ∧ j < els.length then e[p - j * n]? else els.flatten[p]?
  | [], n, _, j, e, _, p => by simp
  | x :: r, n, hl, 0, e, he, p => by
    have hx := hl x (by simp)
    simp only [List.set_cons_zero, List.flatten_cons, Nat.zero_mul, Nat.zero_le, Nat.zero_add, Nat.one_mul, Nat.sub_zero, List.length_cons, Nat.zero_lt_succ, and_true, true_and]
    by_cases hp : p < n
    · rw [if_pos hp, List.getElem?_append_left (by omega)]
    · rw [if_neg hp, List.getElem?_append_right (by omega), List.getElem?_append_right (by omega), he, hx]
  | x :: r, n, hl, j + 1, e, he, p => by
    have hx := hl x (by simp)
    have ih := flat_set (els := r) (fun e he => hl e (by simp [he])) (j := j) he (p - n)
    simp only [List.set_cons_succ, List.flatten_cons, List.length_cons, Nat.add_lt_add_iff_right]
    have e1 : (j + 1) * n = j * n + n := Nat.succ_mul j n
    have e2 : (j + 1 + 1) * n = j * n + n + n := by rw [Nat.succ_mul, Nat.succ_mul]
    by_cases hp : p < n
    · rw [List.getElem?_append_left (by omega), List.getElem?_append_left (by omega), if_neg (by omega)]
    · rw [List.getElem?_append_right (by omega), List.getElem?_append_right (by omega), hx, ih]
      by_cases hc : j * n ≤ p - n ∧ p - n < (j + 1) * n ∧ j < r.length
      · rw [if_pos hc, if_pos (by omega)]; congr 1; omega
      · rw [if_neg hc, if_neg (by omega)]

section
variable {E : Env} {w0 w : World} {F0 F : Nat → Prop} {b : Nat} {t : TypeId} {N o k i : Nat} {ds : List D}

theorem St.elem (h : St E w0 F0 b t N o k w F i ds) (q : Nat) (T : Ty) (els : List (List D)) (hq : ds[q]? = some (.row T els)) (j : Nat) (hj : els[j]? = some (zero T)) :
    ∃ g cap, w.cell? ⟨b, o + q, none⟩ = some (.slice (some ⟨g, 0, none⟩) els.length cap) ∧ At ty w (fun _ => False) g (ty.id T) (cap * ty.size T) (j * ty.size T) (zero T) ∧ ¬ E.own g ∧
      (∀ (ds' : List D) (i' : Nat) (e : Ending) (w1 : World), Post E (fun _ => False) g (ty.id T) (cap * ty.size T) (j * ty.size T) (ty.size T) w (.ok (ds', i')) e w1 → ∃ F', St E w0 F0 b t N o k w1 F' i' (ds.set q (.row T (els.set j ds')))) ∧
      (∀ (m : Mis) (e : Ending) (w1 : World), Post E (fun _ => False) g (ty.id T) (cap * ty.size T) (j * ty.size T) (ty.size T) w (.error m) e w1 → Post E F0 b t N o k w0 (.error m) e w1) := by
  obtain ⟨cs, fp, h1, h2, h3, h4, h5⟩ := h.cur.ex
  obtain ⟨v, hv, hdv⟩ := h3 q _ hq
  have hjl : j < els.length := (List.getElem?_eq_some_iff.1 hj).1
  have hql : q < ds.length := (List.getElem?_eq_some_iff.1 hq).1
  have hroom := h.cur.room
  cases hdv with
  | nil => simp at hjl
  | row _ Fe _ _ g cap cur hg h0 hn hc hs hel hF hFe hcells hd =>
    have hgF : F g := h4 q g hF
    have hgb : ¬ g = b := fun e => h.cur.nb (by rw [← e]; exact hgF)
    have hsz := zero_size T
    have hle : (j + 1) * ty.size T ≤ cap * ty.size T := Nat.mul_le_mul_right _ (by omega)
    rw [Nat.succ_mul] at hle
    have hmvF : ∀ x, (x = E.rb ∨ x = g ∨ False) → (x = E.rb ∨ x = b ∨ F0 x) ∨ w0.heap.size ≤ x := fun x hx => by
      rcases hx with hx | rfl | hx
      · exact .inl (.inl hx)
      · exact (h.fr _ hgF).elim (fun h => .inl (.inr (.inr h))) .inr
      · exact hx.elim
    refine ⟨g, cap, by rw [cell_blk h1]; exact hv, ⟨⟨cur, fun _ _ => False, hg, hs, fun p d hp => ?_, fun _ _ h => h, fun _ _ _ h => h.elim⟩, by rw [hsz]; exact hle, fun h => h, fun _ h => h.elim⟩, h.nF g hgF, fun ds' i' e w1 hp => ?_, fun m e w1 hp => ⟨hp.1, h.mv.trans hp.2 hmvF⟩⟩
    · have hpl : p < ty.size T := by rw [← hsz]; exact (List.getElem?_eq_some_iff.1 hp).1
      have hfl : els.flatten[j * ty.size T + p]? = some d := by rw [flat_get hel hj hpl]; exact hp
      obtain ⟨u, hu⟩ := hcells _ _ hfl
      have hdu := hd _ _ _ hfl hu
      have hmem := List.mem_of_getElem? hp
      have := zval_of hmem hdu
      subst this
      exact ⟨_, hu, zval_is _ _ _ T d hmem⟩
    · obtain ⟨he, hr, hl, ⟨F', ha', hF'⟩, hm, ho⟩ := hp
      have hFn : ∀ x, F' x → w.heap.size ≤ x := fun x hx => (hF' x hx).elim (fun h => h.elim) id
      have hrb : ¬ b = E.rb := fun e => h.nb (.inl e)
      have hb1 : w1.heap[b]? = some (.cells cs t (0, 0)) := hm.heap h1 (by
        rintro (e | e | e)
        · exact hrb e
        · exact hgb e.symm
        · exact e)
      obtain ⟨cur1, fp1, hg1, hz1, hc1, hf1, _⟩ := ha'.ex
      have hother : ∀ x, F x → x ≠ g → ¬ (x = E.rb ∨ x = g ∨ False) := fun x hx hne => by
        rintro (e | e | e)
        · exact h.nF x hx (.inl e)
        · exact hne e
        · exact e
      have hlen' : (els.set j ds').length = els.length := by simp
      have hdis : DIs ty w1 (fun x => fp q x ∨ F' x) (.slice (some ⟨g, 0, none⟩) els.length cap) (.row T (els.set j ds')) := by
        rw [← hlen']
        refine DIs.of_block (Fe := fun x => Fe x ∨ F' x) hg1 (by rw [hlen']; exact h0) (by rw [hlen']; exact hn) hc hz1 (fun e he => ?_) (.inl hF) (fun x hx => ?_) (fun p d hp => ?_)
        · rcases List.mem_or_eq_of_mem_set he with he | rfl
          · exact hel e he
          · exact hl
        · rcases hx with hx | hx
          · exact ⟨.inl (hFe x hx).1, (hFe x hx).2⟩
          · exact ⟨.inr hx, by have := hFn x hx; have := lt_of_block hg; omega⟩
        · rw [flat_set hel hl] at hp
          split at hp
          · rename_i hin
            obtain ⟨u, hu, hdu⟩ := hc1 _ d hp
            exact ⟨u, by rw [← hu]; congr 1; omega, hdu.mono (fun x hx => .inr (hf1 _ x hx))⟩
          · rename_i hin
            obtain ⟨u, hu⟩ := hcells p d hp
            have hdu := hd p d u hp hu
            refine ⟨u, ?_, (hdu.kept fun x hx hlt => hm.block x hlt (hother x (h4 q x (hFe x hx).1) (hFe x hx).2)).mono (fun x hx => .inl hx)⟩
            have := ho p (by rw [Nat.succ_mul] at hin; omega)
            rw [cell_blk hg1, cell_blk hg, hu] at this
            exact this
      refine ⟨fun x => F x ∨ F' x, hr, ⟨⟨cs, fun p x => if p = q then fp q x ∨ F' x else fp p x, hb1, h2, fun p d hp => ?_, fun p x hx => ?_, fun p p' x hx hx' => ?_⟩, by simpa using hroom, ?_, ?_⟩, by simpa using h.len, h.mv.trans hm hmvF, fun y hy => ?_, ?_, h.nb, ?_, h.nF0⟩
      · by_cases hpq : p = q
        · subst hpq
          rw [List.getElem?_set_self hql] at hp
          cases hp
          exact ⟨_, hv, hdis.mono (fun x hx => Eq.mpr (if_pos rfl) hx)⟩
        · rw [List.getElem?_set_ne (Ne.symm hpq)] at hp
          obtain ⟨u, hu, hdu⟩ := h3 p d hp
          refine ⟨u, hu, (hdu.kept fun x hx hlt => hm.block x hlt (hother x (h4 p x hx) fun e => ?_)).mono (fun x hx => Eq.mpr (if_neg hpq) hx)⟩
          subst e
          exact hpq (h5 p q _ hx hF)
      · simp only at hx
        split at hx
        · exact hx.elim (fun hx => .inl (h4 q x hx)) .inr
        · exact .inl (h4 p x hx)
      · simp only at hx hx'
        split at hx <;> split at hx'
        · omega
        · rename_i ha hb
          rcases hx with hx | hx
          · have := h5 _ _ x hx hx'; omega
          · have := h.cur.lt x (h4 _ x hx'); have := hFn x hx; omega
        · rename_i ha hb
          rcases hx' with hx' | hx'
          · have := h5 _ _ x hx hx'; omega
          · have := h.cur.lt x (h4 _ x hx); have := hFn x hx'; omega
        · exact h5 _ _ x hx hx'
      · rintro (hx | hx)
        · exact h.cur.nb hx
        · have := hFn _ hx; have := h.cur.blt; omega
      · rintro x (hx | hx)
        · exact Nat.lt_of_lt_of_le (h.cur.lt x hx) hm.size
        · exact ha'.lt x hx
      · have e1 : w1.cell? ⟨b, y, none⟩ = w.cell? ⟨b, y, none⟩ := by rw [cell_blk hb1, cell_blk h1]
        exact e1.trans (h.out y hy)
      · rintro x (hx | hx)
        · exact h.fr x hx
        · exact .inr (Nat.le_trans h.mv.size (hFn x hx))
      · rintro x (hx | hx)
        · exact h.nF x hx
        · have := hFn x hx
          rintro (rfl | rfl | rfl)
          · have := h.rd.rlt; omega
          · have := h.rd.wlt; omega
          · have := h.rd.tn.lt; omega
end

end Go.Proofs.YthmdgbmodgfcmaaGreatDoor
/-
  What wrap does: an expression becomes the first part of another one.
-/
namespace Go.Proofs.YthmdgbmodgfcmaaGreatDoor
open Go.RowKit

def zA2 : Array Value := #[.int .i64 0, .int .i64 0, .string ⟨#[]⟩, .string ⟨#[]⟩, .slice none 0 0, .slice none 0 0, .slice none 0 0, .slice none 0 0, .slice none 0 0, .int .i64 0, .int .i64 0, .string ⟨#[]⟩, .string ⟨#[]⟩, .slice none 0 0, .slice none 0 0, .slice none 0 0, .slice none 0 0, .slice none 0 0]
def zA3 : Array Value := #[.int .i64 0, .int .i64 0, .string ⟨#[]⟩, .string ⟨#[]⟩, .slice none 0 0, .slice none 0 0, .slice none 0 0, .slice none 0 0, .slice none 0 0, .int .i64 0, .int .i64 0, .string ⟨#[]⟩, .string ⟨#[]⟩, .slice none 0 0, .slice none 0 0, .slice none 0 0, .slice none 0 0, .slice none 0 0, .int .i64 0, .int .i64 0, .string ⟨#[]⟩, .string ⟨#[]⟩, .slice none 0 0, .slice none 0 0, .slice none 0 0, .slice none 0 0, .slice none 0 0]

theorem make_asts (n : Nat) (zc : Array Value) (hn : n ≤ 3) (hz : madeCells ((zero .ast).map zval).toArray (n * 9) = zc) (W : World) :
    (Instr.makeSlice 35 (.int .i64 (n : Int)) (.int .i64 (n : Int))).run Tryz.prog W = .ok (.slice (some ⟨W.heap.size, 0, none⟩) n n) (W.alloc (.cells zc 41)) := by
  obtain ⟨i, z, h1, h2, h3, h4, h5⟩ := info_of .ast
  have hr := run_make (P := Tryz.prog) W 35 41 i z Tryz.underlying35 h1 h2 .i64 .i64 n n (by omega) (Int.le_refl _) (by
    have : (i.bytes : Int) * (n : Int) ≤ 65536 * 3 := Int.mul_le_mul (by omega) (by omega) (by omega) (by omega)
    omega) (by omega)
  rw [hr]
  have hc : z.cells = ((zero .ast).map zval).toArray := by apply Array.ext'; simpa using h3
  simp only [Int.toNat_natCast, hc, h4]
  rw [← hz]
  rfl

theorem DIs.one {w : World} {F : Nat → Prop} {v : Value} {d : D} (h : DIs ty w F v d) : v.oneCell' = true := by cases h <;> rfl

/-- All the cells are written anew. -/
theorem St.anew {E : Env} {w0 w : World} {F0 F : Nat → Prop} {b : Nat} {t : TypeId} {N o k i : Nat} {ds ds' : List D} (h : St E w0 F0 b t N o k w F i ds) {w' : World} {F' : Nat → Prop} {fp : Nat → Nat → Prop} {cs cs' : Array Value} (hcs : w.heap[b]? = some (.cells cs t (0, 0))) (hm : Mv (· = b) w w') (hcs' : w'.heap[b]? = some (.cells cs' t (0, 0)))
    (hout : ∀ j, (j < o ∨ o + k ≤ j) → cs'[j]? = cs[j]?) (hsz : cs'.size = N) (hl : ds'.length = k) (hd : ∀ j d, ds'[j]? = some d → ∃ v, cs'[o + j]? = some v ∧ DIs ty w' (fp j) v d) (hfp : ∀ j x, fp j x → F' x) (hdis : ∀ j j' x, fp j x → fp j' x → j = j')
    (hF' : ∀ x, F' x → F x ∨ (w.heap.size ≤ x ∧ x < w'.heap.size)) : St E w0 F0 b t N o k w' F' i ds' := by
  have hroom := h.cur.room
  have hlen := h.len
  have hblt := h.cur.blt
  have hnb : ∀ x, F' x → ¬ E.own x := fun x hx hown => by
    rcases hF' x hx with h1 | h1
    · exact h.nF x h1 hown
    · rcases hown with rfl | rfl | rfl
      · have := h.rd.rlt; omega
      · have := h.rd.wlt; omega
      · have := h.rd.tn.lt; omega
  refine ⟨h.rd.kept hm (fun e => h.nb (.inl e.symm)) (fun e => h.nb (.inr (.inl e.symm))) (fun e => h.nb (.inr (.inr e.symm))), ⟨⟨cs', fp, hcs', hsz, hd, hfp, hdis⟩, by omega, fun hx => ?_, fun x hx => ?_⟩, hl, h.mv.trans hm (fun x hx => .inl (.inr (.inl hx))), fun j hj => ?_, fun x hx => ?_, h.nb, hnb, h.nF0⟩
  · rcases hF' b hx with h1 | h1
    · exact h.cur.nb h1
    · omega
  · rcases hF' x hx with h1 | h1
    · exact Nat.lt_of_lt_of_le (h.cur.lt x h1) hm.size
    · exact h1.2
  · have := h.out j hj
    rw [← this, cell_blk hcs', cell_blk hcs]
    exact hout j hj
  · rcases hF' x hx with h1 | h1
    · exact h.fr x h1
    · exact .inr (Nat.le_trans h.mv.size h1.1)

/-- Nine cells are written, one behind the other. -/
def put9 (cs : Array Value) (o : Nat) (a0 a1 a2 a3 a4 a5 a6 a7 a8 : Value) : Array Value :=
  ((((((((cs.setIfInBounds o a0).setIfInBounds (o + 1) a1).setIfInBounds (o + 2) a2).setIfInBounds (o + 3) a3).setIfInBounds (o + 4) a4).setIfInBounds (o + 5) a5).setIfInBounds (o + 6) a6).setIfInBounds (o + 7) a7).setIfInBounds (o + 8) a8

theorem put9_out (cs : Array Value) (o : Nat) (a0 a1 a2 a3 a4 a5 a6 a7 a8 : Value) (j : Nat) (h : j < o ∨ o + 9 ≤ j) : (put9 cs o a0 a1 a2 a3 a4 a5 a6 a7 a8)[j]? = cs[j]? := by
  unfold put9
  repeat rw [Array.getElem?_setIfInBounds_ne (by omega)]
theorem put9_size (cs : Array Value) (o : Nat) (a0 a1 a2 a3 a4 a5 a6 a7 a8 : Value) : (put9 cs o a0 a1 a2 a3 a4 a5 a6 a7 a8).size = cs.size := by unfold put9; simp
theorem put9_in (cs : Array Value) (o : Nat) (a0 a1 a2 a3 a4 a5 a6 a7 a8 : Value) (h : o + 9 ≤ cs.size) (j : Nat) (v : Value) (hv : [a0, a1, a2, a3, a4, a5, a6, a7, a8][j]? = some v) : (put9 cs o a0 a1 a2 a3 a4 a5 a6 a7 a8)[o + j]? = some v := by
  have hj : j < 9 := (List.getElem?_eq_some_iff.1 hv).1
  unfold put9
  have : j = 0 ∨ j = 1 ∨ j = 2 ∨ j = 3 ∨ j = 4 ∨ j = 5 ∨ j = 6 ∨ j = 7 ∨ j = 8 := by omega
  rcases this with rfl | rfl | rfl | rfl | rfl | rfl | rfl | rfl | rfl
  · obtain rfl : a0 = v := Option.some.inj hv
    rw [show o + 0 = o from rfl]
    rw [Array.getElem?_setIfInBounds_ne (by omega)]
    rw [Array.getElem?_setIfInBounds_ne (by omega)]
    rw [Array.getElem?_setIfInBounds_ne (by omega)]
    rw [Array.getElem?_setIfInBounds_ne (by omega)]
    rw [Array.getElem?_setIfInBounds_ne (by omega)]
    rw [Array.getElem?_setIfInBounds_ne (by omega)]
    rw [Array.getElem?_setIfInBounds_ne (by omega)]
    rw [Array.getElem?_setIfInBounds_ne (by omega)]
    rw [Array.getElem?_setIfInBounds_self, if_pos (by first | omega | (simp; omega))]
  · obtain rfl : a1 = v := Option.some.inj hv
    rw [Array.getElem?_setIfInBounds_ne (by omega)]
    rw [Array.getElem?_setIfInBounds_ne (by omega)]
    rw [Array.getElem?_setIfInBounds_ne (by omega)]
    rw [Array.getElem?_setIfInBounds_ne (by omega)]
    rw [Array.getElem?_setIfInBounds_ne (by omega)]
    rw [Array.getElem?_setIfInBounds_ne (by omega)]
    rw [Array.getElem?_setIfInBounds_ne (by omega)]
    rw [Array.getElem?_setIfInBounds_self, if_pos (by first | omega | (simp; omega))]
  · obtain rfl : a2 = v := Option.some.inj hv
    rw [Array.getElem?_setIfInBounds_ne (by omega)]
    rw [Array.getElem?_setIfInBounds_ne (by omega)]
    rw [Array.getElem?_setIfInBounds_ne (by omega)]
    rw [Array.getElem?_setIfInBounds_ne (by omega)]
    rw [Array.getElem?_setIfInBounds_ne (by omega)]
    rw [Array.getElem?_setIfInBounds_ne (by omega)]
    rw [Array.getElem?_setIfInBounds_self, if_pos (by first | omega | (simp; omega))]
  · obtain rfl : a3 = v := Option.some.inj hv
    rw [Array.getElem?_setIfInBounds_ne (by omega)]
    rw [Array.getElem?_setIfInBounds_ne (by omega)]
    rw [Array.getElem?_setIfInBounds_ne (by omega)]
    rw [Array.getElem?_setIfInBounds_ne (by omega)]
    rw [Array.getElem?_setIfInBounds_ne (by omega)]
    rw [Array.getElem?_setIfInBounds_self, if_pos (by first | omega | (simp; omega))]
  · obtain rfl : a4 = v := Option.some.inj hv
    rw [Array.getElem?_setIfInBounds_ne (by omega)]
    rw [Array.getElem?_setIfInBounds_ne (by omega)]
    rw [Array.getElem?_setIfInBounds_ne (by omega)]
    rw [Array.getElem?_setIfInBounds_ne (by omega)]
    rw [Array.getElem?_setIfInBounds_self, if_pos (by first | omega | (simp; omega))]
  · obtain rfl : a5 = v := Option.some.inj hv
    rw [Array.getElem?_setIfInBounds_ne (by omega)]
    rw [Array.getElem?_setIfInBounds_ne (by omega)]
    rw [Array.getElem?_setIfInBounds_ne (by omega)]
    rw [Array.getElem?_setIfInBounds_self, if_pos (by first | omega | (simp; omega))]
  · obtain rfl : a6 = v := Option.some.inj hv
    rw [Array.getElem?_setIfInBounds_ne (by omega)]
    rw [Array.getElem?_setIfInBounds_ne (by omega)]
    rw [Array.getElem?_setIfInBounds_self, if_pos (by first | omega | (simp; omega))]
  · obtain rfl : a7 = v := Option.some.inj hv
    rw [Array.getElem?_setIfInBounds_ne (by omega)]
    rw [Array.getElem?_setIfInBounds_self, if_pos (by first | omega | (simp; omega))]
  · obtain rfl : a8 = v := Option.some.inj hv
    rw [Array.getElem?_setIfInBounds_self, if_pos (by first | omega | (simp; omega))]

def set9 (w : World) (b o : Nat) (a0 a1 a2 a3 a4 a5 a6 a7 a8 : Value) : World :=
  ((((((((w.setCell ⟨b, o, none⟩ a0).setCell ⟨b, o + 1, none⟩ a1).setCell ⟨b, o + 2, none⟩ a2).setCell ⟨b, o + 3, none⟩ a3).setCell ⟨b, o + 4, none⟩ a4).setCell ⟨b, o + 5, none⟩ a5).setCell ⟨b, o + 6, none⟩ a6).setCell ⟨b, o + 7, none⟩ a7).setCell ⟨b, o + 8, none⟩ a8

theorem set9_blk {w : World} {b o : Nat} {a0 a1 a2 a3 a4 a5 a6 a7 a8 : Value} {cs : Array Value} {t : TypeId} {m : Nat × Nat} (h : w.heap[b]? = some (.cells cs t m)) : (set9 w b o a0 a1 a2 a3 a4 a5 a6 a7 a8).heap[b]? = some (.cells (put9 cs o a0 a1 a2 a3 a4 a5 a6 a7 a8) t m) :=
  setCell_blk (setCell_blk (setCell_blk (setCell_blk (setCell_blk (setCell_blk (setCell_blk (setCell_blk (setCell_blk h))))))))
theorem set9_mv (w : World) (b o : Nat) (a0 a1 a2 a3 a4 a5 a6 a7 a8 : Value) : Mv (· = b) w (set9 w b o a0 a1 a2 a3 a4 a5 a6 a7 a8) := by
  unfold set9
  have st : ∀ (w' : World) (j : Nat) (v : Value), Mv (· = b) w w' → Mv (· = b) w (w'.setCell ⟨b, j, none⟩ v) := fun w' j v h => h.trans (Mv.setCell w' ⟨b, j, none⟩ v) (fun x hx => .inl hx)
  exact st _ _ _ (st _ _ _ (st _ _ _ (st _ _ _ (st _ _ _ (st _ _ _ (st _ _ _ (st _ _ _ (st _ _ _ (Mv.refl _ _)))))))))
theorem set9_size (w : World) (b o : Nat) (a0 a1 a2 a3 a4 a5 a6 a7 a8 : Value) : (set9 w b o a0 a1 a2 a3 a4 a5 a6 a7 a8).heap.size = w.heap.size := by unfold set9; simp [World.setCell]

set_option maxHeartbeats 8000000 in
set_option maxRecDepth 100000 in
theorem wrap2_walk (b o : Nat) (w : World) (kind : Int) (nm : ByteArray) (v0 v1 v2 v3 v4 v5 v6 v7 v8 : Value)
    (c0 : w.cell? ⟨b, o, none⟩ = some v0) (c1 : w.cell? ⟨b, o + 1, none⟩ = some v1) (c2 : w.cell? ⟨b, o + 2, none⟩ = some v2) (c3 : w.cell? ⟨b, o + 3, none⟩ = some v3) (c4 : w.cell? ⟨b, o + 4, none⟩ = some v4) (c5 : w.cell? ⟨b, o + 5, none⟩ = some v5) (c6 : w.cell? ⟨b, o + 6, none⟩ = some v6) (c7 : w.cell? ⟨b, o + 7, none⟩ = some v7) (c8 : w.cell? ⟨b, o + 8, none⟩ = some v8)
    (hf : ∀ j, w.frozen? ⟨b, j, none⟩ = false) (hblt : b < w.heap.size) (o0 : v0.oneCell' = true) (o1 : v1.oneCell' = true) (o2 : v2.oneCell' = true) (o3 : v3.oneCell' = true) (o4 : v4.oneCell' = true) (o5 : v5.oneCell' = true) (o6 : v6.oneCell' = true) (o7 : v7.oneCell' = true) (o8 : v8.oneCell' = true) :
    Calls Tryz.prog 66 #[.pointer (some ⟨b, o, none⟩), .int .i64 kind, .string nm, .int .i64 2] w fun e w' => e = .returned (.tuple #[]) ∧
      w' = (((set9 w b o (.int .i64 kind) (.int .i64 0) (.string nm) (.string ⟨#[]⟩) (.slice none 0 0) (.slice none 0 0) (.slice none 0 0) (.slice (some ⟨w.heap.size + 1, 0, none⟩) 2 2) (.slice none 0 0)).alloc (.cells #[v0, v1, v2, v3, v4, v5, v6, v7, v8] 41)).alloc
        (.cells #[v0, v1, v2, v3, v4, v5, v6, v7, v8, .int .i64 0, .int .i64 0, .string ⟨#[]⟩, .string ⟨#[]⟩, .slice none 0 0, .slice none 0 0, .slice none 0 0, .slice none 0 0, .slice none 0 0] 41)).drew := by
  have s0 := fun (a : Addr) (w : World) => run_store Tryz.prog w a v0 .plain o0
  have s1 := fun (a : Addr) (w : World) => run_store Tryz.prog w a v1 .plain o1
  have s2 := fun (a : Addr) (w : World) => run_store Tryz.prog w a v2 .plain o2
  have s3 := fun (a : Addr) (w : World) => run_store Tryz.prog w a v3 .plain o3
  have s4 := fun (a : Addr) (w : World) => run_store Tryz.prog w a v4 .plain o4
  have s5 := fun (a : Addr) (w : World) => run_store Tryz.prog w a v5 .plain o5
  have s6 := fun (a : Addr) (w : World) => run_store Tryz.prog w a v6 .plain o6
  have s7 := fun (a : Addr) (w : World) => run_store Tryz.prog w a v7 .plain o7
  have s8 := fun (a : Addr) (w : World) => run_store Tryz.prog w a v8 .plain o8
  have hmk : ∀ W : World, (Instr.makeSlice 35 (.int .i64 2) (.int .i64 2)).run Tryz.prog W = .ok (.slice (some ⟨W.heap.size, 0, none⟩) 2 2) (W.alloc (.cells #[.int .i64 0, .int .i64 0, .string ⟨#[]⟩, .string ⟨#[]⟩, .slice none 0 0, .slice none 0 0, .slice none 0 0, .slice none 0 0, .slice none 0 0, .int .i64 0, .int .i64 0, .string ⟨#[]⟩, .string ⟨#[]⟩, .slice none 0 0, .slice none 0 0, .slice none 0 0, .slice none 0 0, .slice none 0 0] 41)) := fun W => make_asts 2 zA2 (by decide) (by kernel_rfl) W
  go_enter Tryz.func66, Tryz.ntmps66
  go_wp2_with fail
  go_region
  go_wp2_with fail
  exact bodyPost_end (results_none rfl _ _ _) rfl ⟨rfl, rfl⟩

set_option maxHeartbeats 2000000 in
theorem wrap2_any {E : Env} {w0 w : World} {F0 F : Nat → Prop} {b : Nat} {t : TypeId} {N o i : Nat} {ds : List D} (h : St E w0 F0 b t N o 9 w F i ds) (kind : Int) (nm : List UInt8) :
    Calls Tryz.prog 66 #[.pointer (some ⟨b, o, none⟩), .int .i64 kind, .string (strOfL nm), .int .i64 2] w fun e w' => e = .returned (.tuple #[]) ∧
      ∃ F', St E w0 F0 b t N o 9 w' F' i [.num kind, .num 0, .str nm, .str [], .row .str [], .row .ast [], .row .bool [], .row .ast [ds, zAst], .row .arg []] := by
  obtain ⟨cs, fp, h1, h2, h3, h4, h5⟩ := h.cur.ex
  have hroom := h.cur.room
  have hlen := h.len
  obtain ⟨d0, d1, d2, d3, d4, d5, d6, d7, d8, rfl⟩ := len9 hlen
  obtain ⟨v0, e0, D0⟩ := h3 0 d0 rfl
  obtain ⟨v1, e1, D1⟩ := h3 1 d1 rfl
  obtain ⟨v2, e2, D2⟩ := h3 2 d2 rfl
  obtain ⟨v3, e3, D3⟩ := h3 3 d3 rfl
  obtain ⟨v4, e4, D4⟩ := h3 4 d4 rfl
  obtain ⟨v5, e5, D5⟩ := h3 5 d5 rfl
  obtain ⟨v6, e6, D6⟩ := h3 6 d6 rfl
  obtain ⟨v7, e7, D7⟩ := h3 7 d7 rfl
  obtain ⟨v8, e8, D8⟩ := h3 8 d8 rfl
  simp only [Nat.add_zero] at e0
  refine (wrap2_walk b o w kind (strOfL nm) v0 v1 v2 v3 v4 v5 v6 v7 v8 (by rw [cell_blk h1]; exact e0) (by rw [cell_blk h1]; exact e1) (by rw [cell_blk h1]; exact e2) (by rw [cell_blk h1]; exact e3) (by rw [cell_blk h1]; exact e4) (by rw [cell_blk h1]; exact e5) (by rw [cell_blk h1]; exact e6) (by rw [cell_blk h1]; exact e7) (by rw [cell_blk h1]; exact e8) (fun j => free_blk h1 j) (lt_of_block h1) D0.one D1.one D2.one D3.one D4.one D5.one D6.one D7.one D8.one).mono ?_
  rintro e w' ⟨rfl, rfl⟩
  refine ⟨rfl, fun x => F x ∨ x = w.heap.size + 1, ?_⟩
  have hblt := lt_of_block h1
  have hm9 := set9_mv w b o (.int .i64 kind) (.int .i64 0) (.string (strOfL nm)) (.string ⟨#[]⟩) (.slice none 0 0) (.slice none 0 0) (.slice none 0 0) (.slice (some ⟨w.heap.size + 1, 0, none⟩) 2 2) (.slice none 0 0)
  have hs9 := set9_size w b o (.int .i64 kind) (.int .i64 0) (.string (strOfL nm)) (.string ⟨#[]⟩) (.slice none 0 0) (.slice none 0 0) (.slice none 0 0) (.slice (some ⟨w.heap.size + 1, 0, none⟩) 2 2) (.slice none 0 0)
  have hb9 := set9_blk (o := o) (a0 := .int .i64 kind) (a1 := .int .i64 0) (a2 := .string (strOfL nm)) (a3 := .string ⟨#[]⟩) (a4 := .slice none 0 0) (a5 := .slice none 0 0) (a6 := .slice none 0 0) (a7 := .slice (some ⟨w.heap.size + 1, 0, none⟩) 2 2) (a8 := .slice none 0 0) h1
  generalize set9 w b o (.int .i64 kind) (.int .i64 0) (.string (strOfL nm)) (.string ⟨#[]⟩) (.slice none 0 0) (.slice none 0 0) (.slice none 0 0) (.slice (some ⟨w.heap.size + 1, 0, none⟩) 2 2) (.slice none 0 0) = W9 at *
  have hm := ((hm9.trans (Mv.alloc (fun _ => False) W9 (.cells #[v0, v1, v2, v3, v4, v5, v6, v7, v8] 41)) (fun _ h => h.elim)).trans (Mv.alloc (fun _ => False) _ (.cells #[v0, v1, v2, v3, v4, v5, v6, v7, v8, .int .i64 0, .int .i64 0, .string ⟨#[]⟩, .string ⟨#[]⟩, .slice none 0 0, .slice none 0 0, .slice none 0 0, .slice none 0 0, .slice none 0 0] 41)) (fun _ h => h.elim)).trans (Mv.drew (fun _ => False) _) (fun _ h => h.elim)
  have hg : (((W9.alloc (.cells #[v0, v1, v2, v3, v4, v5, v6, v7, v8] 41)).alloc (.cells #[v0, v1, v2, v3, v4, v5, v6, v7, v8, .int .i64 0, .int .i64 0, .string ⟨#[]⟩, .string ⟨#[]⟩, .slice none 0 0, .slice none 0 0, .slice none 0 0, .slice none 0 0, .slice none 0 0] 41)).drew).heap[w.heap.size + 1]? = some (.cells #[v0, v1, v2, v3, v4, v5, v6, v7, v8, .int .i64 0, .int .i64 0, .string ⟨#[]⟩, .string ⟨#[]⟩, .slice none 0 0, .slice none 0 0, .slice none 0 0, .slice none 0 0, .slice none 0 0] 41 (0, 0)) := by
    have := heap_alloc_new (W9.alloc (.cells #[v0, v1, v2, v3, v4, v5, v6, v7, v8] 41)) (.cells #[v0, v1, v2, v3, v4, v5, v6, v7, v8, .int .i64 0, .int .i64 0, .string ⟨#[]⟩, .string ⟨#[]⟩, .slice none 0 0, .slice none 0 0, .slice none 0 0, .slice none 0 0, .slice none 0 0] 41)
    rw [show (W9.alloc (.cells #[v0, v1, v2, v3, v4, v5, v6, v7, v8] 41)).heap.size = w.heap.size + 1 by simp [hs9]] at this
    exact this
  have hb : (((W9.alloc (.cells #[v0, v1, v2, v3, v4, v5, v6, v7, v8] 41)).alloc (.cells #[v0, v1, v2, v3, v4, v5, v6, v7, v8, .int .i64 0, .int .i64 0, .string ⟨#[]⟩, .string ⟨#[]⟩, .slice none 0 0, .slice none 0 0, .slice none 0 0, .slice none 0 0, .slice none 0 0] 41)).drew).heap[b]? = some (.cells (put9 cs o (.int .i64 kind) (.int .i64 0) (.string (strOfL nm)) (.string ⟨#[]⟩) (.slice none 0 0) (.slice none 0 0) (.slice none 0 0) (.slice (some ⟨w.heap.size + 1, 0, none⟩) 2 2) (.slice none 0 0)) t (0, 0)) :=
    (Mv.drew (fun _ => False) _).heap ((Mv.alloc (fun _ => False) _ _).heap ((Mv.alloc (fun _ => False) _ _).heap hb9 id) id) id
  have hsz : w.heap.size + 1 < (((W9.alloc (.cells #[v0, v1, v2, v3, v4, v5, v6, v7, v8] 41)).alloc (.cells #[v0, v1, v2, v3, v4, v5, v6, v7, v8, .int .i64 0, .int .i64 0, .string ⟨#[]⟩, .string ⟨#[]⟩, .slice none 0 0, .slice none 0 0, .slice none 0 0, .slice none 0 0, .slice none 0 0] 41)).drew).heap.size := lt_of_block hg
  generalize (((W9.alloc (.cells #[v0, v1, v2, v3, v4, v5, v6, v7, v8] 41)).alloc (.cells #[v0, v1, v2, v3, v4, v5, v6, v7, v8, .int .i64 0, .int .i64 0, .string ⟨#[]⟩, .string ⟨#[]⟩, .slice none 0 0, .slice none 0 0, .slice none 0 0, .slice none 0 0, .slice none 0 0] 41)).drew) = W at *
  have hkeep : ∀ {v d} {q : Nat}, DIs ty w (fp q) v d → DIs ty W F v d := fun {v d q} hd => (hd.kept fun x hx hlt => hm.block x hlt fun e => h.cur.nb (by rw [← show x = b from e]; exact h4 q x hx)).mono (h4 q)
  refine h.anew (fp := fun j x => j = 7 ∧ (F x ∨ x = w.heap.size + 1)) h1 hm hb (fun j hj => put9_out _ _ _ _ _ _ _ _ _ _ _ j hj) (by rw [put9_size]; exact h2) rfl (fun j d hd => ?_) (fun j x hx => hx.2) (fun j j' x hx hx' => hx.1.trans hx'.1.symm) (fun x hx => hx.elim .inl (fun e => .inr (by omega)))
  have hput := put9_in cs o (.int .i64 kind) (.int .i64 0) (.string (strOfL nm)) (.string ⟨#[]⟩) (.slice none 0 0) (.slice none 0 0) (.slice none 0 0) (.slice (some ⟨w.heap.size + 1, 0, none⟩) 2 2) (.slice none 0 0) (by simp at hroom; omega)
  have hj : j < 9 := (List.getElem?_eq_some_iff.1 hd).1
  have hcases : j = 0 ∨ j = 1 ∨ j = 2 ∨ j = 3 ∨ j = 4 ∨ j = 5 ∨ j = 6 ∨ j = 7 ∨ j = 8 := by omega
  rcases hcases with rfl | rfl | rfl | rfl | rfl | rfl | rfl | rfl | rfl
  all_goals (simp only [List.getElem?_cons_zero, List.getElem?_cons_succ, Option.some.injEq] at hd; subst hd; refine ⟨_, hput _ _ rfl, ?_⟩)
  · exact .num _ _
  · exact .num _ _
  · exact .str _ _
  · exact .str _ []
  · exact .nil _ _
  · exact .nil _ _
  · exact .nil _ _
  · refine DIs.of_block (t := .ast) (els := [[d0, d1, d2, d3, d4, d5, d6, d7, d8], zAst]) (Fe := F) hg (by simp) (Nat.le_refl _) (by unfold maxLen; decide) rfl (fun e he => ?_) ⟨rfl, .inr rfl⟩ (fun x hx => ⟨⟨rfl, .inl hx⟩, by have := h.cur.lt x hx; omega⟩) (fun p d hp => ?_)
    · simp at he
      rcases he with rfl | rfl <;> rfl
    · have hp9 : p < 18 := (List.getElem?_eq_some_iff.1 hp).1
      have hpc : p = 0 ∨ p = 1 ∨ p = 2 ∨ p = 3 ∨ p = 4 ∨ p = 5 ∨ p = 6 ∨ p = 7 ∨ p = 8 ∨ p = 9 ∨ p = 10 ∨ p = 11 ∨ p = 12 ∨ p = 13 ∨ p = 14 ∨ p = 15 ∨ p = 16 ∨ p = 17 := by omega
      rcases hpc with rfl | rfl | rfl | rfl | rfl | rfl | rfl | rfl | rfl | rfl | rfl | rfl | rfl | rfl | rfl | rfl | rfl | rfl
      · obtain rfl : d0 = d := Option.some.inj hp
        exact ⟨_, rfl, hkeep D0⟩
      · obtain rfl : d1 = d := Option.some.inj hp
        exact ⟨_, rfl, hkeep D1⟩
      · obtain rfl : d2 = d := Option.some.inj hp
        exact ⟨_, rfl, hkeep D2⟩
      · obtain rfl : d3 = d := Option.some.inj hp
        exact ⟨_, rfl, hkeep D3⟩
      · obtain rfl : d4 = d := Option.some.inj hp
        exact ⟨_, rfl, hkeep D4⟩
      · obtain rfl : d5 = d := Option.some.inj hp
        exact ⟨_, rfl, hkeep D5⟩
      · obtain rfl : d6 = d := Option.some.inj hp
        exact ⟨_, rfl, hkeep D6⟩
      · obtain rfl : d7 = d := Option.some.inj hp
        exact ⟨_, rfl, hkeep D7⟩
      · obtain rfl : d8 = d := Option.some.inj hp
        exact ⟨_, rfl, hkeep D8⟩
      · obtain rfl : (D.num 0) = d := Option.some.inj hp
        exact ⟨_, rfl, .num _ _⟩
      · obtain rfl : (D.num 0) = d := Option.some.inj hp
        exact ⟨_, rfl, .num _ _⟩
      · obtain rfl : (D.str []) = d := Option.some.inj hp
        exact ⟨_, rfl, .str _ []⟩
      · obtain rfl : (D.str []) = d := Option.some.inj hp
        exact ⟨_, rfl, .str _ []⟩
      · obtain rfl : (D.row .str []) = d := Option.some.inj hp
        exact ⟨_, rfl, .nil _ _⟩
      · obtain rfl : (D.row .ast []) = d := Option.some.inj hp
        exact ⟨_, rfl, .nil _ _⟩
      · obtain rfl : (D.row .bool []) = d := Option.some.inj hp
        exact ⟨_, rfl, .nil _ _⟩
      · obtain rfl : (D.row .ast []) = d := Option.some.inj hp
        exact ⟨_, rfl, .nil _ _⟩
      · obtain rfl : (D.row .arg []) = d := Option.some.inj hp
        exact ⟨_, rfl, .nil _ _⟩
  · exact .nil _ _

set_option maxHeartbeats 8000000 in
set_option maxRecDepth 100000 in
theorem wrap3_walk (b o : Nat) (w : World) (kind : Int) (nm : ByteArray) (v0 v1 v2 v3 v4 v5 v6 v7 v8 : Value)
    (c0 : w.cell? ⟨b, o, none⟩ = some v0) (c1 : w.cell? ⟨b, o + 1, none⟩ = some v1) (c2 : w.cell? ⟨b, o + 2, none⟩ = some v2) (c3 : w.cell? ⟨b, o + 3, none⟩ = some v3) (c4 : w.cell? ⟨b, o + 4, none⟩ = some v4) (c5 : w.cell? ⟨b, o + 5, none⟩ = some v5) (c6 : w.cell? ⟨b, o + 6, none⟩ = some v6) (c7 : w.cell? ⟨b, o + 7, none⟩ = some v7) (c8 : w.cell? ⟨b, o + 8, none⟩ = some v8)
    (hf : ∀ j, w.frozen? ⟨b, j, none⟩ = false) (hblt : b < w.heap.size) (o0 : v0.oneCell' = true) (o1 : v1.oneCell' = true) (o2 : v2.oneCell' = true) (o3 : v3.oneCell' = true) (o4 : v4.oneCell' = true) (o5 : v5.oneCell' = true) (o6 : v6.oneCell' = true) (o7 : v7.oneCell' = true) (o8 : v8.oneCell' = true) :
    Calls Tryz.prog 66 #[.pointer (some ⟨b, o, none⟩), .int .i64 kind, .string nm, .int .i64 3] w fun e w' => e = .returned (.tuple #[]) ∧
      w' = (((set9 w b o (.int .i64 kind) (.int .i64 0) (.string nm) (.string ⟨#[]⟩) (.slice none 0 0) (.slice none 0 0) (.slice none 0 0) (.slice (some ⟨w.heap.size + 1, 0, none⟩) 3 3) (.slice none 0 0)).alloc (.cells #[v0, v1, v2, v3, v4, v5, v6, v7, v8] 41)).alloc
        (.cells #[v0, v1, v2, v3, v4, v5, v6, v7, v8, .int .i64 0, .int .i64 0, .string ⟨#[]⟩, .string ⟨#[]⟩, .slice none 0 0, .slice none 0 0, .slice none 0 0, .slice none 0 0, .slice none 0 0, .int .i64 0, .int .i64 0, .string ⟨#[]⟩, .string ⟨#[]⟩, .slice none 0 0, .slice none 0 0, .slice none 0 0, .slice none 0 0, .slice none 0 0] 41)).drew := by
  have s0 := fun (a : Addr) (w : World) => run_store Tryz.prog w a v0 .plain o0
  have s1 := fun (a : Addr) (w : World) => run_store Tryz.prog w a v1 .plain o1
  have s2 := fun (a : Addr) (w : World) => run_store Tryz.prog w a v2 .plain o2
  have s3 := fun (a : Addr) (w : World) => run_store Tryz.prog w a v3 .plain o3
  have s4 := fun (a : Addr) (w : World) => run_store Tryz.prog w a v4 .plain o4
  have s5 := fun (a : Addr) (w : World) => run_store Tryz.prog w a v5 .plain o5
  have s6 := fun (a : Addr) (w : World) => run_store Tryz.prog w a v6 .plain o6
  have s7 := fun (a : Addr) (w : World) => run_store Tryz.prog w a v7 .plain o7
  have s8 := fun (a : Addr) (w : World) => run_store Tryz.prog w a v8 .plain o8
  have hmk : ∀ W : World, (Instr.makeSlice 35 (.int .i64 3) (.int .i64 3)).run Tryz.prog W = .ok (.slice (some ⟨W.heap.size, 0, none⟩) 3 3) (W.alloc (.cells #[.int .i64 0, .int .i64 0, .string ⟨#[]⟩, .string ⟨#[]⟩, .slice none 0 0, .slice none 0 0, .slice none 0 0, .slice none 0 0, .slice none 0 0, .int .i64 0, .int .i64 0, .string ⟨#[]⟩, .string ⟨#[]⟩, .slice none 0 0, .slice none 0 0, .slice none 0 0, .slice none 0 0, .slice none 0 0, .int .i64 0, .int .i64 0, .string ⟨#[]⟩, .string ⟨#[]⟩, .slice none 0 0, .slice none 0 0, .slice none 0 0, .slice none 0 0, .slice none 0 0] 41)) := fun W => make_asts 3 zA3 (by decide) (by kernel_rfl) W
  go_enter Tryz.func66, Tryz.ntmps66
  go_wp2_with fail
  go_region
  go_wp2_with fail
  exact bodyPost_end (results_none rfl _ _ _) rfl ⟨rfl, rfl⟩

set_option maxHeartbeats 2000000 in
theorem wrap3_any {E : Env} {w0 w : World} {F0 F : Nat → Prop} {b : Nat} {t : TypeId} {N o i : Nat} {ds : List D} (h : St E w0 F0 b t N o 9 w F i ds) (kind : Int) (nm : List UInt8) :
    Calls Tryz.prog 66 #[.pointer (some ⟨b, o, none⟩), .int .i64 kind, .string (strOfL nm), .int .i64 3] w fun e w' => e = .returned (.tuple #[]) ∧
      ∃ F', St E w0 F0 b t N o 9 w' F' i [.num kind, .num 0, .str nm, .str [], .row .str [], .row .ast [], .row .bool [], .row .ast [ds, zAst, zAst], .row .arg []] := by
  obtain ⟨cs, fp, h1, h2, h3, h4, h5⟩ := h.cur.ex
  have hroom := h.cur.room
  have hlen := h.len
  obtain ⟨d0, d1, d2, d3, d4, d5, d6, d7, d8, rfl⟩ := len9 hlen
  obtain ⟨v0, e0, D0⟩ := h3 0 d0 rfl
  obtain ⟨v1, e1, D1⟩ := h3 1 d1 rfl
  obtain ⟨v2, e2, D2⟩ := h3 2 d2 rfl
  obtain ⟨v3, e3, D3⟩ := h3 3 d3 rfl
  obtain ⟨v4, e4, D4⟩ := h3 4 d4 rfl
  obtain ⟨v5, e5, D5⟩ := h3 5 d5 rfl
  obtain ⟨v6, e6, D6⟩ := h3 6 d6 rfl
  obtain ⟨v7, e7, D7⟩ := h3 7 d7 rfl
  obtain ⟨v8, e8, D8⟩ := h3 8 d8 rfl
  simp only [Nat.add_zero] at e0
  refine (wrap3_walk b o w kind (strOfL nm) v0 v1 v2 v3 v4 v5 v6 v7 v8 (by rw [cell_blk h1]; exact e0) (by rw [cell_blk h1]; exact e1) (by rw [cell_blk h1]; exact e2) (by rw [cell_blk h1]; exact e3) (by rw [cell_blk h1]; exact e4) (by rw [cell_blk h1]; exact e5) (by rw [cell_blk h1]; exact e6) (by rw [cell_blk h1]; exact e7) (by rw [cell_blk h1]; exact e8) (fun j => free_blk h1 j) (lt_of_block h1) D0.one D1.one D2.one D3.one D4.one D5.one D6.one D7.one D8.one).mono ?_
  rintro e w' ⟨rfl, rfl⟩
  refine ⟨rfl, fun x => F x ∨ x = w.heap.size + 1, ?_⟩
  have hblt := lt_of_block h1
  have hm9 := set9_mv w b o (.int .i64 kind) (.int .i64 0) (.string (strOfL nm)) (.string ⟨#[]⟩) (.slice none 0 0) (.slice none 0 0) (.slice none 0 0) (.slice (some ⟨w.heap.size + 1, 0, none⟩) 3 3) (.slice none 0 0)
  have hs9 := set9_size w b o (.int .i64 kind) (.int .i64 0) (.string (strOfL nm)) (.string ⟨#[]⟩) (.slice none 0 0) (.slice none 0 0) (.slice none 0 0) (.slice (some ⟨w.heap.size + 1, 0, none⟩) 3 3) (.slice none 0 0)
  have hb9 := set9_blk (o := o) (a0 := .int .i64 kind) (a1 := .int .i64 0) (a2 := .string (strOfL nm)) (a3 := .string ⟨#[]⟩) (a4 := .slice none 0 0) (a5 := .slice none 0 0) (a6 := .slice none 0 0) (a7 := .slice (some ⟨w.heap.size + 1, 0, none⟩) 3 3) (a8 := .slice none 0 0) h1
  generalize set9 w b o (.int .i64 kind) (.int .i64 0) (.string (strOfL nm)) (.string ⟨#[]⟩) (.slice none 0 0) (.slice none 0 0) (.slice none 0 0) (.slice (some ⟨w.heap.size + 1, 0, none⟩) 3 3) (.slice none 0 0) = W9 at *
  have hm := ((hm9.trans (Mv.alloc (fun _ => False) W9 (.cells #[v0, v1, v2, v3, v4, v5, v6, v7, v8] 41)) (fun _ h => h.elim)).trans (Mv.alloc (fun _ => False) _ (.cells #[v0, v1, v2, v3, v4, v5, v6, v7, v8, .int .i64 0, .int .i64 0, .string ⟨#[]⟩, .string ⟨#[]⟩, .slice none 0 0, .slice none 0 0, .slice none 0 0, .slice none 0 0, .slice none 0 0, .int .i64 0, .int .i64 0, .string ⟨#[]⟩, .string ⟨#[]⟩, .slice none 0 0, .slice none 0 0, .slice none 0 0, .slice none 0 0, .slice none 0 0] 41)) (fun _ h => h.elim)).trans (Mv.drew (fun _ => False) _) (fun _ h => h.elim)
  have hg : (((W9.alloc (.cells #[v0, v1, v2, v3, v4, v5, v6, v7, v8] 41)).alloc (.cells #[v0, v1, v2, v3, v4, v5, v6, v7, v8, .int .i64 0, .int .i64 0, .string ⟨#[]⟩, .string ⟨#[]⟩, .slice none 0 0, .slice none 0 0, .slice none 0 0, .slice none 0 0, .slice none 0 0, .int .i64 0, .int .i64 0, .string ⟨#[]⟩, .string ⟨#[]⟩, .slice none 0 0, .slice none 0 0, .slice none 0 0, .slice none 0 0, .slice none 0 0] 41)).drew).heap[w.heap.size + 1]? = some (.cells #[v0, v1, v2, v3, v4, v5, v6, v7, v8, .int .i64 0, .int .i64 0, .string ⟨#[]⟩, .string ⟨#[]⟩, .slice none 0 0, .slice none 0 0, .slice none 0 0, .slice none 0 0, .slice none 0 0, .int .i64 0, .int .i64 0, .string ⟨#[]⟩, .string ⟨#[]⟩, .slice none 0 0, .slice none 0 0, .slice none 0 0, .slice none 0 0, .slice none 0 0] 41 (0, 0)) := by
    have := heap_alloc_new (W9.alloc (.cells #[v0, v1, v2, v3, v4, v5, v6, v7, v8] 41)) (.cells #[v0, v1, v2, v3, v4, v5, v6, v7, v8, .int .i64 0, .int .i64 0, .string ⟨#[]⟩, .string ⟨#[]⟩, .slice none 0 0, .slice none 0 0, .slice none 0 0, .slice none 0 0, .slice none 0 0, .int .i64 0, .int .i64 0, .string ⟨#[]⟩, .string ⟨#[]⟩, .slice none 0 0, .slice none 0 0, .slice none 0 0, .slice none 0 0, .slice none 0 0] 41)
    rw [show (W9.alloc (.cells #[v0, v1, v2, v3, v4, v5, v6, v7, v8] 41)).heap.size = w.heap.size + 1 by simp [hs9]] at this
    exact this
  have hb : (((W9.alloc (.cells #[v0, v1, v2, v3, v4, v5, v6, v7, v8] 41)).alloc (.cells #[v0, v1, v2, v3, v4, v5, v6, v7, v8, .int .i64 0, .int .i64 0, .string ⟨#[]⟩, .string ⟨#[]⟩, .slice none 0 0, .slice none 0 0, .slice none 0 0, .slice none 0 0, .slice none 0 0, .int .i64 0, .int .i64 0, .string ⟨#[]⟩, .string ⟨#[]⟩, .slice none 0 0, .slice none 0 0, .slice none 0 0, .slice none 0 0, .slice none 0 0] 41)).drew).heap[b]? = some (.cells (put9 cs o (.int .i64 kind) (.int .i64 0) (.string (strOfL nm)) (.string ⟨#[]⟩) (.slice none 0 0) (.slice none 0 0) (.slice none 0 0) (.slice (some ⟨w.heap.size + 1, 0, none⟩) 3 3) (.slice none 0 0)) t (0, 0)) :=
    (Mv.drew (fun _ => False) _).heap ((Mv.alloc (fun _ => False) _ _).heap ((Mv.alloc (fun _ => False) _ _).heap hb9 id) id) id
  have hsz : w.heap.size + 1 < (((W9.alloc (.cells #[v0, v1, v2, v3, v4, v5, v6, v7, v8] 41)).alloc (.cells #[v0, v1, v2, v3, v4, v5, v6, v7, v8, .int .i64 0, .int .i64 0, .string ⟨#[]⟩, .string ⟨#[]⟩, .slice none 0 0, .slice none 0 0, .slice none 0 0, .slice none 0 0, .slice none 0 0, .int .i64 0, .int .i64 0, .string ⟨#[]⟩, .string ⟨#[]⟩, .slice none 0 0, .slice none 0 0, .slice none 0 0, .slice none 0 0, .slice none 0 0] 41)).drew).heap.size := lt_of_block hg
  generalize (((W9.alloc (.cells #[v0, v1, v2, v3, v4, v5, v6, v7, v8] 41)).alloc (.cells #[v0, v1, v2, v3, v4, v5, v6, v7, v8, .int .i64 0, .int .i64 0, .string ⟨#[]⟩, .string ⟨#[]⟩, .slice none 0 0, .slice none 0 0, .slice none 0 0, .slice none 0 0, .slice none 0 0, .int .i64 0, .int .i64 0, .string ⟨#[]⟩, .string ⟨#[]⟩, .slice none 0 0, .slice none 0 0, .slice none 0 0, .slice none 0 0, .slice none 0 0] 41)).drew) = W at *
  have hkeep : ∀ {v d} {q : Nat}, DIs ty w (fp q) v d → DIs ty W F v d := fun {v d q} hd => (hd.kept fun x hx hlt => hm.block x hlt fun e => h.cur.nb (by rw [← show x = b from e]; exact h4 q x hx)).mono (h4 q)
  refine h.anew (fp := fun j x => j = 7 ∧ (F x ∨ x = w.heap.size + 1)) h1 hm hb (fun j hj => put9_out _ _ _ _ _ _ _ _ _ _ _ j hj) (by rw [put9_size]; exact h2) rfl (fun j d hd => ?_) (fun j x hx => hx.2) (fun j j' x hx hx' => hx.1.trans hx'.1.symm) (fun x hx => hx.elim .inl (fun e => .inr (by omega)))
  have hput := put9_in cs o (.int .i64 kind) (.int .i64 0) (.string (strOfL nm)) (.string ⟨#[]⟩) (.slice none 0 0) (.slice none 0 0) (.slice none 0 0) (.slice (some ⟨w.heap.size + 1, 0, none⟩) 3 3) (.slice none 0 0) (by simp at hroom; omega)
  have hj : j < 9 := (List.getElem?_eq_some_iff.1 hd).1
  have hcases : j = 0 ∨ j = 1 ∨ j = 2 ∨ j = 3 ∨ j = 4 ∨ j = 5 ∨ j = 6 ∨ j = 7 ∨ j = 8 := by omega
  rcases hcases with rfl | rfl | rfl | rfl | rfl | rfl | rfl | rfl | rfl
  all_goals (simp only [List.getElem?_cons_zero, List.getElem?_cons_succ, Option.some.injEq] at hd; subst hd; refine ⟨_, hput _ _ rfl, ?_⟩)
  · exact .num _ _
  · exact .num _ _
  · exact .str _ _
  · exact .str _ []
  · exact .nil _ _
  · exact .nil _ _
  · exact .nil _ _
  · refine DIs.of_block (t := .ast) (els := [[d0, d1, d2, d3, d4, d5, d6, d7, d8], zAst, zAst]) (Fe := F) hg (by simp) (Nat.le_refl _) (by unfold maxLen; decide) rfl (fun e he => ?_) ⟨rfl, .inr rfl⟩ (fun x hx => ⟨⟨rfl, .inl hx⟩, by have := h.cur.lt x hx; omega⟩) (fun p d hp => ?_)
    · simp at he
      rcases he with rfl | rfl <;> rfl
    · have hp9 : p < 27 := (List.getElem?_eq_some_iff.1 hp).1
      have hpc : p = 0 ∨ p = 1 ∨ p = 2 ∨ p = 3 ∨ p = 4 ∨ p = 5 ∨ p = 6 ∨ p = 7 ∨ p = 8 ∨ p = 9 ∨ p = 10 ∨ p = 11 ∨ p = 12 ∨ p = 13 ∨ p = 14 ∨ p = 15 ∨ p = 16 ∨ p = 17 ∨ p = 18 ∨ p = 19 ∨ p = 20 ∨ p = 21 ∨ p = 22 ∨ p = 23 ∨ p = 24 ∨ p = 25 ∨ p = 26 := by omega
      rcases hpc with rfl | rfl | rfl | rfl | rfl | rfl | rfl | rfl | rfl | rfl | rfl | rfl | rfl | rfl | rfl | rfl | rfl | rfl | rfl | rfl | rfl | rfl | rfl | rfl | rfl | rfl | rfl
      · obtain rfl : d0 = d := Option.some.inj hp
        exact ⟨_, rfl, hkeep D0⟩
      · obtain rfl : d1 = d := Option.some.inj hp
        exact ⟨_, rfl, hkeep D1⟩
      · obtain rfl : d2 = d := Option.some.inj hp
        exact ⟨_, rfl, hkeep D2⟩
      · obtain rfl : d3 = d := Option.some.inj hp
        exact ⟨_, rfl, hkeep D3⟩
      · obtain rfl : d4 = d := Option.some.inj hp
        exact ⟨_, rfl, hkeep D4⟩
      · obtain rfl : d5 = d := Option.some.inj hp
        exact ⟨_, rfl, hkeep D5⟩
      · obtain rfl : d6 = d := Option.some.inj hp
        exact ⟨_, rfl, hkeep D6⟩
      · obtain rfl : d7 = d := Option.some.inj hp
        exact ⟨_, rfl, hkeep D7⟩
      · obtain rfl : d8 = d := Option.some.inj hp
        exact ⟨_, rfl, hkeep D8⟩
      · obtain rfl : (D.num 0) = d := Option.some.inj hp
        exact ⟨_, rfl, .num _ _⟩
      · obtain rfl : (D.num 0) = d := Option.some.inj hp
        exact ⟨_, rfl, .num _ _⟩
      · obtain rfl : (D.str []) = d := Option.some.inj hp
        exact ⟨_, rfl, .str _ []⟩
      · obtain rfl : (D.str []) = d := Option.some.inj hp
        exact ⟨_, rfl, .str _ []⟩
      · obtain rfl : (D.row .str []) = d := Option.some.inj hp
        exact ⟨_, rfl, .nil _ _⟩
      · obtain rfl : (D.row .ast []) = d := Option.some.inj hp
        exact ⟨_, rfl, .nil _ _⟩
      · obtain rfl : (D.row .bool []) = d := Option.some.inj hp
        exact ⟨_, rfl, .nil _ _⟩
      · obtain rfl : (D.row .ast []) = d := Option.some.inj hp
        exact ⟨_, rfl, .nil _ _⟩
      · obtain rfl : (D.row .arg []) = d := Option.some.inj hp
        exact ⟨_, rfl, .nil _ _⟩
      · obtain rfl : (D.num 0) = d := Option.some.inj hp
        exact ⟨_, rfl, .num _ _⟩
      · obtain rfl : (D.num 0) = d := Option.some.inj hp
        exact ⟨_, rfl, .num _ _⟩
      · obtain rfl : (D.str []) = d := Option.some.inj hp
        exact ⟨_, rfl, .str _ []⟩
      · obtain rfl : (D.str []) = d := Option.some.inj hp
        exact ⟨_, rfl, .str _ []⟩
      · obtain rfl : (D.row .str []) = d := Option.some.inj hp
        exact ⟨_, rfl, .nil _ _⟩
      · obtain rfl : (D.row .ast []) = d := Option.some.inj hp
        exact ⟨_, rfl, .nil _ _⟩
      · obtain rfl : (D.row .bool []) = d := Option.some.inj hp
        exact ⟨_, rfl, .nil _ _⟩
      · obtain rfl : (D.row .ast []) = d := Option.some.inj hp
        exact ⟨_, rfl, .nil _ _⟩
      · obtain rfl : (D.row .arg []) = d := Option.some.inj hp
        exact ⟨_, rfl, .nil _ _⟩
  · exact .nil _ _

end Go.Proofs.YthmdgbmodgfcmaaGreatDoor
/-
  What the reader's primary does.
-/
namespace Go.Proofs.YthmdgbmodgfcmaaGreatDoor
open Go.RowKit

set_option maxHeartbeats 4000000 in
theorem primary_does (E : Env) (f : Nat) (ih : Sp E f) : Rds E (f + 1) 92 zAst .primary := by
  intro i hne w F b t N o hr ha hb hF
  have hs0 : St E w F b t N o 9 w F i zAst := St.start hr ha hb hF
  obtain ⟨R, hI, hR⟩ := Is.start (run E.c (f + 1) .primary i)
  show Calls _ _ _ _ (Post E F b t N o 9 w _)
  rw [hR] at hne ⊢
  clear hR hr ha hF
  rw [run_primary] at hI
  have hl := strOfL_toList
  have hbr : ¬ b = E.rb := fun e => hb (.inl e)
  have hbr' : ¬ E.rb = b := fun e => hb (.inl e.symm)
  have hmf : ∀ (fn : Fn) (first cap : Array Value) (w : World), (Instr.makeFunc fn first cap).run Tryz.prog w = .ok (.func fn first cap) w := fun _ _ _ _ => rfl
  go_enter Tryz.func92, Tryz.ntmps92
  go_wp2_with fail
  refine (kind_any E (i) _ hs0.rd 0 (i) (by omega) (by omega)).mono ?_
  rintro e w1 ⟨rfl, hm2⟩
  have hs3 := hs0.same hm2
  rcases Decidable.em (E.c.kindAt (i) = 2) with h4 | h4
  · have hbh4 : ((E.c.kindAt (i) : Int) == 2) = true := by rw [h4]; rfl
    replace hI := hI.pos h4
    go_wp2_with fail
    obtain ⟨tk, htk, _, _, hnum, _⟩ := Cx.some_of_kind h4 (by decide)
    refine (next_yes E (i) _ hs3.rd 2 h4 (by decide)).mono ?_
    rintro e w5 ⟨rfl, hr6, hm7⟩
    have hs8 := hs3.goes hr6 hm7
    have wn := (hr6.words _ tk htk).2.2.1
    rw [hnum] at hI
    obtain ⟨v9, c10, _⟩ := hs8.cur.cell 0 _ rfl
    simp only [Nat.add_zero] at c10
    have fz11 := hs8.cur.free (o)
    obtain ⟨v12, c13, _⟩ := hs8.cur.cell 1 _ rfl
    have fz14 := hs8.cur.free (o + 1)
    go_wp2_with fail
    have hs15 := hs8.set0 (by decide) (.int .i64 1) (.num 1) (fun _ => .num _ _)
    have hs16 := hs15.set 1 (by decide) (.int .i64 (tk.n : Int)) (.num (tk.n : Int)) (fun _ => .num _ _)
    go_returns
    rw [hI.eq]
    exact hs16.done
  have hbh4 : ((E.c.kindAt (i) : Int) == 2) = false := by rw [beq_eq_false_iff_ne]; omega
  replace hI := hI.neg h4
  rcases Decidable.em (E.c.kindAt (i) = 1) with h17 | h17
  · have hbh17 : ((E.c.kindAt (i) : Int) == 1) = true := by rw [h17]; rfl
    replace hI := hI.pos h17
    go_wp2_with fail
    refine (ih.named (i) (hI.fuel1 hne) _ _ _ _ _ _ hs3.rd hs3.cur hs3.nb hs3.nF).mono ?_
    intro e w18 hp19
    rcases hrun20 : run E.c f .named (i) with m | ⟨d24, j21⟩
    · rw [hrun20] at hp19
      obtain rfl := hp19.1
      rw [hI.eq, hrun20]
      exact ⟨rfl, hs3.wholeBad hp19⟩
    rw [hrun20] at hp19
    obtain rfl := hp19.1
    obtain ⟨F22, hs23⟩ := hs3.whole hp19
    replace hI : Is (.ok (d24, j21)) R := by rw [hrun20] at hI; exact hI
    clear hrun20
    go_wp2_with fail
    go_returns
    rw [hI.eq]
    exact hs23.done
  have hbh17 : ((E.c.kindAt (i) : Int) == 1) = false := by rw [beq_eq_false_iff_ne]; omega
  replace hI := hI.neg h17
  go_wp2_with fail
  refine (key_any E (i) _ hs3.rd 0 (i) (by omega) (by omega)).mono ?_
  rintro e w25 ⟨rfl, hm26⟩
  have hs27 := hs3.same hm26
  rcases Decidable.em (E.c.keyAt (i) = [116, 114, 117, 101]) with h28 | h28
  · have hbh28 : (E.c.keyAt (i) == [116, 114, 117, 101]) = true := beq_iff_eq.2 h28
    replace hI := hI.pos h28
    have Hh28 : Hid (E.c.keyAt (i) = [116, 114, 117, 101]) := h28
    clear h28
    have c29 := hs27.rd.c2
    have f30 := hs27.rd.f2
    have hsm31 := E.small
    have hlt32 : i < E.c.T.length := Cx.lt_of_key Hh28.out (by decide)
    obtain ⟨v33, c34, _⟩ := hs27.cur.cell 0 _ rfl
    simp only [Nat.add_zero] at c34
    have fz35 := hs27.cur.free (o)
    obtain ⟨v36, c37, _⟩ := hs27.cur.cell 1 _ rfl
    have fz38 := hs27.cur.free (o + 1)
    go_wp2_with fail
    have hs39 := hs27.inc hlt32
    have hs40 := hs39.set0 (by decide) (.int .i64 1) (.num 1) (fun _ => .num _ _)
    have hs41 := hs40.set 1 (by decide) (.int .i64 1) (.num 1) (fun _ => .num _ _)
    go_returns
    rw [hI.eq]
    exact hs41.done
  have hbh28 : (E.c.keyAt (i) == [116, 114, 117, 101]) = false := beq_eq_false_iff_ne.2 h28
  replace hI := hI.neg h28
  rcases Decidable.em (E.c.keyAt (i) = [102, 97, 108, 115, 101]) with h42 | h42
  · have hbh42 : (E.c.keyAt (i) == [102, 97, 108, 115, 101]) = true := beq_iff_eq.2 h42
    replace hI := hI.pos h42
    have Hh42 : Hid (E.c.keyAt (i) = [102, 97, 108, 115, 101]) := h42
    clear h42
    have c43 := hs27.rd.c2
    have f44 := hs27.rd.f2
    have hsm45 := E.small
    have hlt46 : i < E.c.T.length := Cx.lt_of_key Hh42.out (by decide)
    obtain ⟨v47, c48, _⟩ := hs27.cur.cell 0 _ rfl
    simp only [Nat.add_zero] at c48
    have fz49 := hs27.cur.free (o)
    go_wp2_with fail
    have hs50 := hs27.inc hlt46
    have hs51 := hs50.set0 (by decide) (.int .i64 1) (.num 1) (fun _ => .num _ _)
    go_returns
    rw [hI.eq]
    exact hs51.done
  have hbh42 : (E.c.keyAt (i) == [102, 97, 108, 115, 101]) = false := beq_eq_false_iff_ne.2 h42
  replace hI := hI.neg h42
  rcases Decidable.em (E.c.keyAt (i) = [40]) with h52 | h52
  · have hbh52 : (E.c.keyAt (i) == [40]) = true := beq_iff_eq.2 h52
    replace hI := hI.pos h52
    have Hh52 : Hid (E.c.keyAt (i) = [40]) := h52
    clear h52
    go_wp2_with fail
    refine (ih.parens (i) (hI.fuel1 hne) _ _ _ _ _ _ hs27.rd hs27.cur hs27.nb hs27.nF).mono ?_
    intro e w53 hp54
    rcases hrun55 : run E.c f .parens (i) with m | ⟨d59, j56⟩
    · rw [hrun55] at hp54
      obtain rfl := hp54.1
      rw [hI.eq, hrun55]
      exact ⟨rfl, hs27.wholeBad hp54⟩
    rw [hrun55] at hp54
    obtain rfl := hp54.1
    obtain ⟨F57, hs58⟩ := hs27.whole hp54
    replace hI : Is (.ok (d59, j56)) R := by rw [hrun55] at hI; exact hI
    clear hrun55
    go_wp2_with fail
    go_returns
    rw [hI.eq]
    exact hs58.done
  have hbh52 : (E.c.keyAt (i) == [40]) = false := beq_eq_false_iff_ne.2 h52
  replace hI := hI.neg h52
  rcases Decidable.em (E.c.keyAt (i) = [114, 117, 110]) with h60 | h60
  · have hbh60 : (E.c.keyAt (i) == [114, 117, 110]) = true := beq_iff_eq.2 h60
    replace hI := hI.pos h60
    have Hh60 : Hid (E.c.keyAt (i) = [114, 117, 110]) := h60
    clear h60
    go_wp2_with fail
    refine (ih.run (i) (hI.fuel1 hne) _ _ _ _ _ _ hs27.rd hs27.cur hs27.nb hs27.nF).mono ?_
    intro e w61 hp62
    rcases hrun63 : run E.c f .run (i) with m | ⟨d67, j64⟩
    · rw [hrun63] at hp62
      obtain rfl := hp62.1
      rw [hI.eq, hrun63]
      exact ⟨rfl, hs27.wholeBad hp62⟩
    rw [hrun63] at hp62
    obtain rfl := hp62.1
    obtain ⟨F65, hs66⟩ := hs27.whole hp62
    replace hI : Is (.ok (d67, j64)) R := by rw [hrun63] at hI; exact hI
    clear hrun63
    go_wp2_with fail
    go_returns
    rw [hI.eq]
    exact hs66.done
  have hbh60 : (E.c.keyAt (i) == [114, 117, 110]) = false := beq_eq_false_iff_ne.2 h60
  replace hI := hI.neg h60
  rcases Decidable.em (E.c.keyAt (i) = [116, 105, 109, 101, 111, 117, 116]) with h68 | h68
  · have hbh68 : (E.c.keyAt (i) == [116, 105, 109, 101, 111, 117, 116]) = true := beq_iff_eq.2 h68
    replace hI := hI.pos (.inl h68)
    have Hh68 : Hid (E.c.keyAt (i) = [116, 105, 109, 101, 111, 117, 116]) := h68
    clear h68
    go_wp2_with fail
    refine (anyKey_yes E (i) _ hs27.rd (Cx.kind_of_key Hh68.out (by decide))).mono ?_
    rintro e w69 ⟨rfl, hr70, hm71⟩
    have hs72 := hs27.goes hr70 hm71
    obtain ⟨v73, c74, _⟩ := hs72.cur.cell 0 _ rfl
    simp only [Nat.add_zero] at c74
    have fz75 := hs72.cur.free (o)
    obtain ⟨v76, c77, _⟩ := hs72.cur.cell 2 _ rfl
    have fz78 := hs72.cur.free (o + 2)
    go_wp2_with fail
    have hs79 := hs72.set0 (by decide) (.int .i64 10) (.num 10) (fun _ => .num _ _)
    have hs80 := hs79.set 2 (by decide) (.string (strOfL (E.c.keyAt (i)))) (.str (E.c.keyAt (i))) (fun _ => .str _ _)
    go_returns
    rw [hI.eq]
    exact hs80.done
  have hbh68 : (E.c.keyAt (i) == [116, 105, 109, 101, 111, 117, 116]) = false := beq_eq_false_iff_ne.2 h68
  rcases Decidable.em (E.c.keyAt (i) = [110, 112, 95]) with h81 | h81
  · have hbh81 : (E.c.keyAt (i) == [110, 112, 95]) = true := beq_iff_eq.2 h81
    replace hI := hI.pos (.inr (.inl h81))
    have Hh81 : Hid (E.c.keyAt (i) = [110, 112, 95]) := h81
    clear h81
    go_wp2_with fail
    refine (anyKey_yes E (i) _ hs27.rd (Cx.kind_of_key Hh81.out (by decide))).mono ?_
    rintro e w82 ⟨rfl, hr83, hm84⟩
    have hs85 := hs27.goes hr83 hm84
    obtain ⟨v86, c87, _⟩ := hs85.cur.cell 0 _ rfl
    simp only [Nat.add_zero] at c87
    have fz88 := hs85.cur.free (o)
    obtain ⟨v89, c90, _⟩ := hs85.cur.cell 2 _ rfl
    have fz91 := hs85.cur.free (o + 2)
    go_wp2_with fail
    have hs92 := hs85.set0 (by decide) (.int .i64 10) (.num 10) (fun _ => .num _ _)
    have hs93 := hs92.set 2 (by decide) (.string (strOfL (E.c.keyAt (i)))) (.str (E.c.keyAt (i))) (fun _ => .str _ _)
    go_returns
    rw [hI.eq]
    exact hs93.done
  have hbh81 : (E.c.keyAt (i) == [110, 112, 95]) = false := beq_eq_false_iff_ne.2 h81
  rcases Decidable.em (E.c.keyAt (i) = [95, 112, 105, 100]) with h94 | h94
  · have hbh94 : (E.c.keyAt (i) == [95, 112, 105, 100]) = true := beq_iff_eq.2 h94
    replace hI := hI.pos (.inr (.inr (.inl h94)))
    have Hh94 : Hid (E.c.keyAt (i) = [95, 112, 105, 100]) := h94
    clear h94
    go_wp2_with fail
    refine (anyKey_yes E (i) _ hs27.rd (Cx.kind_of_key Hh94.out (by decide))).mono ?_
    rintro e w95 ⟨rfl, hr96, hm97⟩
    have hs98 := hs27.goes hr96 hm97
    obtain ⟨v99, c100, _⟩ := hs98.cur.cell 0 _ rfl
    simp only [Nat.add_zero] at c100
    have fz101 := hs98.cur.free (o)
    obtain ⟨v102, c103, _⟩ := hs98.cur.cell 2 _ rfl
    have fz104 := hs98.cur.free (o + 2)
    go_wp2_with fail
    have hs105 := hs98.set0 (by decide) (.int .i64 10) (.num 10) (fun _ => .num _ _)
    have hs106 := hs105.set 2 (by decide) (.string (strOfL (E.c.keyAt (i)))) (.str (E.c.keyAt (i))) (fun _ => .str _ _)
    go_returns
    rw [hI.eq]
    exact hs106.done
  have hbh94 : (E.c.keyAt (i) == [95, 112, 105, 100]) = false := beq_eq_false_iff_ne.2 h94
  rcases Decidable.em (E.c.keyAt (i) = [95, 110, 114, 95, 112, 114]) with h107 | h107
  · have hbh107 : (E.c.keyAt (i) == [95, 110, 114, 95, 112, 114]) = true := beq_iff_eq.2 h107
    replace hI := hI.pos (.inr (.inr (.inr h107)))
    have Hh107 : Hid (E.c.keyAt (i) = [95, 110, 114, 95, 112, 114]) := h107
    clear h107
    go_wp2_with fail
    refine (anyKey_yes E (i) _ hs27.rd (Cx.kind_of_key Hh107.out (by decide))).mono ?_
    rintro e w108 ⟨rfl, hr109, hm110⟩
    have hs111 := hs27.goes hr109 hm110
    obtain ⟨v112, c113, _⟩ := hs111.cur.cell 0 _ rfl
    simp only [Nat.add_zero] at c113
    have fz114 := hs111.cur.free (o)
    obtain ⟨v115, c116, _⟩ := hs111.cur.cell 2 _ rfl
    have fz117 := hs111.cur.free (o + 2)
    go_wp2_with fail
    have hs118 := hs111.set0 (by decide) (.int .i64 10) (.num 10) (fun _ => .num _ _)
    have hs119 := hs118.set 2 (by decide) (.string (strOfL (E.c.keyAt (i)))) (.str (E.c.keyAt (i))) (fun _ => .str _ _)
    go_returns
    rw [hI.eq]
    exact hs119.done
  have hbh107 : (E.c.keyAt (i) == [95, 110, 114, 95, 112, 114]) = false := beq_eq_false_iff_ne.2 h107
  replace hI := hI.neg (by simp only [h68, h81, h94, h107, or_self, not_false_eq_true])
  rcases Decidable.em (E.c.keyAt (i) = [108, 101, 110]) with h120 | h120
  · have hbh120 : (E.c.keyAt (i) == [108, 101, 110]) = true := beq_iff_eq.2 h120
    replace hI := hI.pos (.inl h120)
    have Hh120 : Hid (E.c.keyAt (i) = [108, 101, 110]) := h120
    clear h120
    go_wp2_with fail
    refine (ih.length (i) (Cx.kind_of_key Hh120.out (by decide)) (hI.fuel1 hne) _ _ _ _ _ _ hs27.rd hs27.cur hs27.nb hs27.nF).mono ?_
    intro e w121 hp122
    rcases hrun123 : run E.c f .length (i) with m | ⟨d127, j124⟩
    · rw [hrun123] at hp122
      obtain rfl := hp122.1
      rw [hI.eq, hrun123]
      exact ⟨rfl, hs27.wholeBad hp122⟩
    rw [hrun123] at hp122
    obtain rfl := hp122.1
    obtain ⟨F125, hs126⟩ := hs27.whole hp122
    replace hI : Is (.ok (d127, j124)) R := by rw [hrun123] at hI; exact hI
    clear hrun123
    go_wp2_with fail
    go_returns
    rw [hI.eq]
    exact hs126.done
  have hbh120 : (E.c.keyAt (i) == [108, 101, 110]) = false := beq_eq_false_iff_ne.2 h120
  rcases Decidable.em (E.c.keyAt (i) = [102, 117, 108, 108]) with h128 | h128
  · have hbh128 : (E.c.keyAt (i) == [102, 117, 108, 108]) = true := beq_iff_eq.2 h128
    replace hI := hI.pos (.inr (.inl h128))
    have Hh128 : Hid (E.c.keyAt (i) = [102, 117, 108, 108]) := h128
    clear h128
    go_wp2_with fail
    refine (ih.length (i) (Cx.kind_of_key Hh128.out (by decide)) (hI.fuel1 hne) _ _ _ _ _ _ hs27.rd hs27.cur hs27.nb hs27.nF).mono ?_
    intro e w129 hp130
    rcases hrun131 : run E.c f .length (i) with m | ⟨d135, j132⟩
    · rw [hrun131] at hp130
      obtain rfl := hp130.1
      rw [hI.eq, hrun131]
      exact ⟨rfl, hs27.wholeBad hp130⟩
    rw [hrun131] at hp130
    obtain rfl := hp130.1
    obtain ⟨F133, hs134⟩ := hs27.whole hp130
    replace hI : Is (.ok (d135, j132)) R := by rw [hrun131] at hI; exact hI
    clear hrun131
    go_wp2_with fail
    go_returns
    rw [hI.eq]
    exact hs134.done
  have hbh128 : (E.c.keyAt (i) == [102, 117, 108, 108]) = false := beq_eq_false_iff_ne.2 h128
  rcases Decidable.em (E.c.keyAt (i) = [101, 109, 112, 116, 121]) with h136 | h136
  · have hbh136 : (E.c.keyAt (i) == [101, 109, 112, 116, 121]) = true := beq_iff_eq.2 h136
    replace hI := hI.pos (.inr (.inr (.inl h136)))
    have Hh136 : Hid (E.c.keyAt (i) = [101, 109, 112, 116, 121]) := h136
    clear h136
    go_wp2_with fail
    refine (ih.length (i) (Cx.kind_of_key Hh136.out (by decide)) (hI.fuel1 hne) _ _ _ _ _ _ hs27.rd hs27.cur hs27.nb hs27.nF).mono ?_
    intro e w137 hp138
    rcases hrun139 : run E.c f .length (i) with m | ⟨d143, j140⟩
    · rw [hrun139] at hp138
      obtain rfl := hp138.1
      rw [hI.eq, hrun139]
      exact ⟨rfl, hs27.wholeBad hp138⟩
    rw [hrun139] at hp138
    obtain rfl := hp138.1
    obtain ⟨F141, hs142⟩ := hs27.whole hp138
    replace hI : Is (.ok (d143, j140)) R := by rw [hrun139] at hI; exact hI
    clear hrun139
    go_wp2_with fail
    go_returns
    rw [hI.eq]
    exact hs142.done
  have hbh136 : (E.c.keyAt (i) == [101, 109, 112, 116, 121]) = false := beq_eq_false_iff_ne.2 h136
  rcases Decidable.em (E.c.keyAt (i) = [110, 102, 117, 108, 108]) with h144 | h144
  · have hbh144 : (E.c.keyAt (i) == [110, 102, 117, 108, 108]) = true := beq_iff_eq.2 h144
    replace hI := hI.pos (.inr (.inr (.inr (.inl h144))))
    have Hh144 : Hid (E.c.keyAt (i) = [110, 102, 117, 108, 108]) := h144
    clear h144
    go_wp2_with fail
    refine (ih.length (i) (Cx.kind_of_key Hh144.out (by decide)) (hI.fuel1 hne) _ _ _ _ _ _ hs27.rd hs27.cur hs27.nb hs27.nF).mono ?_
    intro e w145 hp146
    rcases hrun147 : run E.c f .length (i) with m | ⟨d151, j148⟩
    · rw [hrun147] at hp146
      obtain rfl := hp146.1
      rw [hI.eq, hrun147]
      exact ⟨rfl, hs27.wholeBad hp146⟩
    rw [hrun147] at hp146
    obtain rfl := hp146.1
    obtain ⟨F149, hs150⟩ := hs27.whole hp146
    replace hI : Is (.ok (d151, j148)) R := by rw [hrun147] at hI; exact hI
    clear hrun147
    go_wp2_with fail
    go_returns
    rw [hI.eq]
    exact hs150.done
  have hbh144 : (E.c.keyAt (i) == [110, 102, 117, 108, 108]) = false := beq_eq_false_iff_ne.2 h144
  rcases Decidable.em (E.c.keyAt (i) = [110, 101, 109, 112, 116, 121]) with h152 | h152
  · have hbh152 : (E.c.keyAt (i) == [110, 101, 109, 112, 116, 121]) = true := beq_iff_eq.2 h152
    replace hI := hI.pos (.inr (.inr (.inr (.inr h152))))
    have Hh152 : Hid (E.c.keyAt (i) = [110, 101, 109, 112, 116, 121]) := h152
    clear h152
    go_wp2_with fail
    refine (ih.length (i) (Cx.kind_of_key Hh152.out (by decide)) (hI.fuel1 hne) _ _ _ _ _ _ hs27.rd hs27.cur hs27.nb hs27.nF).mono ?_
    intro e w153 hp154
    rcases hrun155 : run E.c f .length (i) with m | ⟨d159, j156⟩
    · rw [hrun155] at hp154
      obtain rfl := hp154.1
      rw [hI.eq, hrun155]
      exact ⟨rfl, hs27.wholeBad hp154⟩
    rw [hrun155] at hp154
    obtain rfl := hp154.1
    obtain ⟨F157, hs158⟩ := hs27.whole hp154
    replace hI : Is (.ok (d159, j156)) R := by rw [hrun155] at hI; exact hI
    clear hrun155
    go_wp2_with fail
    go_returns
    rw [hI.eq]
    exact hs158.done
  have hbh152 : (E.c.keyAt (i) == [110, 101, 109, 112, 116, 121]) = false := beq_eq_false_iff_ne.2 h152
  replace hI := hI.neg (by simp only [h120, h128, h136, h144, h152, or_self, not_false_eq_true])
  go_wp2_with fail
  refine (refuse_any E (i) _ hs27.rd).mono ?_
  rintro e w160 ⟨rfl, hm161⟩
  rw [hI.eq]
  exact ⟨rfl, hs27.bad hm161 _⟩

end Go.Proofs.YthmdgbmodgfcmaaGreatDoor
/-
  What the reader's parens does.
-/
namespace Go.Proofs.YthmdgbmodgfcmaaGreatDoor
open Go.RowKit

set_option maxHeartbeats 4000000 in
theorem parens_does (E : Env) (f : Nat) (ih : Sp E f) : Rds E (f + 1) 117 zAst .parens := by
  intro i hne w F b t N o hr ha hb hF
  have hs0 : St E w F b t N o 9 w F i zAst := St.start hr ha hb hF
  obtain ⟨R, hI, hR⟩ := Is.start (run E.c (f + 1) .parens i)
  show Calls _ _ _ _ (Post E F b t N o 9 w _)
  rw [hR] at hne ⊢
  clear hR hr ha hF
  rw [run_parens] at hI
  have hl := strOfL_toList
  have hbr : ¬ b = E.rb := fun e => hb (.inl e)
  have hbr' : ¬ E.rb = b := fun e => hb (.inl e.symm)
  have hmf : ∀ (fn : Fn) (first cap : Array Value) (w : World), (Instr.makeFunc fn first cap).run Tryz.prog w = .ok (.func fn first cap) w := fun _ _ _ _ => rfl
  go_enter Tryz.func117, Tryz.ntmps117
  go_wp2_with fail
  rcases (Decidable.em (E.c.keyAt (i) = [40])).symm with h1 | h1
  · refine (need_no E (i) _ hs0.rd [40] h1).mono ?_
    rintro e w2 ⟨rfl, hm4⟩
    rw [hI.nno h1]
    exact ⟨rfl, hs0.bad hm4 _⟩
  refine (need_yes E (i) _ hs0.rd [40] h1 (by decide)).mono ?_
  rintro e w2 ⟨rfl, hr3, hm4⟩
  have hs5 := hs0.goes hr3 hm4
  replace hI := hI.nyes h1
  go_wp2_with fail
  refine (ih.expr (i + 1) (hI.fuel hne) _ _ _ _ _ _ hs5.rd hs5.cur hs5.nb hs5.nF).mono ?_
  intro e w6 hp7
  rcases hrun8 : run E.c f .expr (i + 1) with m | ⟨d12, j9⟩
  · rw [hrun8] at hp7
    obtain rfl := hp7.1
    rw [hI.err hrun8]
    exact ⟨rfl, hs5.wholeBad hp7⟩
  rw [hrun8] at hp7
  obtain rfl := hp7.1
  obtain ⟨F10, hs11⟩ := hs5.whole hp7
  replace hI := hI.ok hrun8
  clear hrun8
  go_wp2_with fail
  rcases Decidable.em (E.c.keyAt (j9) = [45, 62]) with h13 | h13
  · refine (take_yes E (j9) _ hs11.rd [45, 62] h13 (by decide)).mono ?_
    rintro e w14 ⟨rfl, hr15, hm16⟩
    have hs17 := hs11.goes hr15 hm16
    replace hI := hI.pos h13
    go_wp2_with fail
    refine (ih.cond d12 hp7.2.2.1 (j9 + 1) (hI.fuel hne) _ _ _ _ _ _ hs17.rd hs17.cur hs17.nb hs17.nF).mono ?_
    intro e w18 hp19
    rw [hp7.2.2.1] at hp19
    rcases hrun20 : run E.c f (.cond d12) (j9 + 1) with m | ⟨d24, j21⟩
    · rw [hrun20] at hp19
      obtain rfl := hp19.1
      rw [hI.err hrun20]
      exact ⟨rfl, hs17.wholeBad hp19⟩
    rw [hrun20] at hp19
    obtain rfl := hp19.1
    obtain ⟨F22, hs23⟩ := hs17.whole hp19
    replace hI := hI.ok hrun20
    clear hrun20
    go_wp2_with fail
    rcases (Decidable.em (E.c.keyAt (j21) = [41])).symm with h25 | h25
    · refine (need_no E (j21) _ hs23.rd [41] h25).mono ?_
      rintro e w26 ⟨rfl, hm28⟩
      rw [hI.nno h25]
      exact ⟨rfl, hs23.bad hm28 _⟩
    refine (need_yes E (j21) _ hs23.rd [41] h25 (by decide)).mono ?_
    rintro e w26 ⟨rfl, hr27, hm28⟩
    have hs29 := hs23.goes hr27 hm28
    replace hI := hI.nyes h25
    go_wp2_with fail
    go_returns
    rw [hI.eq]
    exact hs29.done
  · refine (take_no E (j9) _ hs11.rd [45, 62] h13).mono ?_
    rintro e w14 ⟨rfl, hm16⟩
    have hs17 := hs11.same hm16
    replace hI := hI.neg h13
    go_wp2_with fail
    rcases (Decidable.em (E.c.keyAt (j9) = [41])).symm with h30 | h30
    · refine (need_no E (j9) _ hs17.rd [41] h30).mono ?_
      rintro e w31 ⟨rfl, hm33⟩
      rw [hI.nno h30]
      exact ⟨rfl, hs17.bad hm33 _⟩
    refine (need_yes E (j9) _ hs17.rd [41] h30 (by decide)).mono ?_
    rintro e w31 ⟨rfl, hr32, hm33⟩
    have hs34 := hs17.goes hr32 hm33
    replace hI := hI.nyes h30
    go_wp2_with fail
    go_returns
    rw [hI.eq]
    exact hs34.done

end Go.Proofs.YthmdgbmodgfcmaaGreatDoor
/-
  What the reader's cond does.
-/
namespace Go.Proofs.YthmdgbmodgfcmaaGreatDoor
open Go.RowKit

set_option maxHeartbeats 4000000 in
theorem cond_does (E : Env) (f : Nat) (ih : Sp E f) : ∀ e : List D, e.length = 9 → Rds E (f + 1) 136 e (.cond e) := by
  intro e he i hne w F b t N o hr ha hb hF
  have hs0 := St.start hr ha hb hF
  rw [he] at hs0 ⊢
  obtain ⟨R, hI, hR⟩ := Is.start (run E.c (f + 1) (.cond e) i)
  rw [hR] at hne ⊢
  clear hR hr ha hF
  rw [run_cond] at hI
  have hl := strOfL_toList
  have hbr : ¬ b = E.rb := fun e => hb (.inl e)
  have hbr' : ¬ E.rb = b := fun e => hb (.inl e.symm)
  have hmf : ∀ (fn : Fn) (first cap : Array Value) (w : World), (Instr.makeFunc fn first cap).run Tryz.prog w = .ok (.func fn first cap) w := fun _ _ _ _ => rfl
  go_enter Tryz.func136, Tryz.ntmps136
  go_wp2_with fail
  refine (wrap3_any hs0 5 []).mono ?_
  rintro _ w1 ⟨rfl, F2, hs3⟩
  obtain ⟨g11, cap12, hc13, hat14, hog15, hok16, hbad17⟩ := hs3.elem 7 .ast [e, zAst, zAst] rfl 1 rfl
  go_wp2_with fail
  refine (ih.expr (i) (hI.fuel hne) _ (fun _ => False) g11 _ _ 9 hs3.rd hat14 hog15 (fun _ h => h.elim)).mono ?_
  intro e w4 hp5
  rcases hrun6 : run E.c f .expr (i) with m | ⟨d10, j7⟩
  · rw [hrun6] at hp5
    obtain rfl := hp5.1
    rw [hI.err hrun6]
    exact ⟨rfl, hbad17 _ _ _ hp5⟩
  rw [hrun6] at hp5
  obtain rfl := hp5.1
  obtain ⟨F8, hs9⟩ := hok16 _ _ _ _ hp5
  replace hI := hI.ok hrun6
  clear hrun6
  go_wp2_with fail
  rcases (Decidable.em (E.c.keyAt (j7) = [58])).symm with h18 | h18
  · refine (need_no E (j7) _ hs9.rd [58] h18).mono ?_
    rintro e w19 ⟨rfl, hm21⟩
    rw [hI.nno h18]
    exact ⟨rfl, hs9.bad hm21 _⟩
  refine (need_yes E (j7) _ hs9.rd [58] h18 (by decide)).mono ?_
  rintro e w19 ⟨rfl, hr20, hm21⟩
  have hs22 := hs9.goes hr20 hm21
  replace hI := hI.nyes h18
  obtain ⟨g30, cap31, hc32, hat33, hog34, hok35, hbad36⟩ := hs22.elem 7 .ast [e, d10, zAst] rfl 2 rfl
  go_wp2_with fail
  refine (ih.expr (j7 + 1) (hI.fuel hne) _ (fun _ => False) g30 _ _ 18 hs22.rd hat33 hog34 (fun _ h => h.elim)).mono ?_
  intro e w23 hp24
  rcases hrun25 : run E.c f .expr (j7 + 1) with m | ⟨d29, j26⟩
  · rw [hrun25] at hp24
    obtain rfl := hp24.1
    rw [hI.err hrun25]
    exact ⟨rfl, hbad36 _ _ _ hp24⟩
  rw [hrun25] at hp24
  obtain rfl := hp24.1
  obtain ⟨F27, hs28⟩ := hok35 _ _ _ _ hp24
  replace hI := hI.ok hrun25
  clear hrun25
  go_wp2_with fail
  go_returns
  rw [hI.eq]
  exact hs28.done

end Go.Proofs.YthmdgbmodgfcmaaGreatDoor
/-
  What the reader's run does.
-/
namespace Go.Proofs.YthmdgbmodgfcmaaGreatDoor
open Go.RowKit

set_option maxHeartbeats 4000000 in
theorem run_does (E : Env) (f : Nat) (ih : Sp E f) : Rds E (f + 1) 118 zAst .run := by
  intro i hne w F b t N o hr ha hb hF
  have hs0 : St E w F b t N o 9 w F i zAst := St.start hr ha hb hF
  obtain ⟨R, hI, hR⟩ := Is.start (run E.c (f + 1) .run i)
  show Calls _ _ _ _ (Post E F b t N o 9 w _)
  rw [hR] at hne ⊢
  clear hR hr ha hF
  rw [run_run] at hI
  have hl := strOfL_toList
  have hbr : ¬ b = E.rb := fun e => hb (.inl e)
  have hbr' : ¬ E.rb = b := fun e => hb (.inl e.symm)
  have hmf : ∀ (fn : Fn) (first cap : Array Value) (w : World), (Instr.makeFunc fn first cap).run Tryz.prog w = .ok (.func fn first cap) w := fun _ _ _ _ => rfl
  go_enter Tryz.func118, Tryz.ntmps118
  go_wp2_with fail
  rcases (Decidable.em (E.c.keyAt (i) = [114, 117, 110])).symm with h1 | h1
  · refine (need_no E (i) _ hs0.rd [114, 117, 110] h1).mono ?_
    rintro e w2 ⟨rfl, hm4⟩
    rw [hI.nno h1]
    exact ⟨rfl, hs0.bad hm4 _⟩
  refine (need_yes E (i) _ hs0.rd [114, 117, 110] h1 (by decide)).mono ?_
  rintro e w2 ⟨rfl, hr3, hm4⟩
  have hs5 := hs0.goes hr3 hm4
  replace hI := hI.nyes h1
  obtain ⟨v6, c7, _⟩ := hs5.cur.cell 0 _ rfl
  simp only [Nat.add_zero] at c7
  have fz8 := hs5.cur.free (o)
  go_wp2_with fail
  have hs9 := hs5.set0 (by decide) (.int .i64 8) (.num 8) (fun _ => .num _ _)
  obtain ⟨Fi17, hat18, hown19, hok20, hbad21⟩ := hs9.call 2 1 (by decide)
  refine (ih.name [] (i + 1) (hI.fuel hne) _ Fi17 _ _ _ (o + 2) hs9.rd hat18 hs9.nb hown19).mono ?_
  intro e w10 hp11
  rcases hrun12 : run E.c f .name (i + 1) with m | ⟨d16, j13⟩
  · rw [hrun12] at hp11
    obtain rfl := hp11.1
    rw [hI.err hrun12]
    exact ⟨rfl, hbad21 _ _ _ hp11⟩
  rw [hrun12] at hp11
  obtain rfl := hp11.1
  obtain ⟨d16x0, rfl⟩ := len1 hp11.2.2.1
  obtain ⟨F14, hs15⟩ := hok20 _ _ _ _ hp11
  replace hI := hI.ok hrun12
  clear hrun12
  go_wp2_with fail
  obtain ⟨Fi29, hat30, hown31, hok32, hbad33⟩ := hs15.call 7 1 (by decide)
  refine (ih.inParAst (j13) (hI.fuel hne) _ Fi29 _ _ _ (o + 7) hs15.rd hat30 hs15.nb hown31).mono ?_
  intro e w22 hp23
  rcases hrun24 : run E.c f (.inParens .expr .ast) (j13) with m | ⟨d28, j25⟩
  · rw [hrun24] at hp23
    obtain rfl := hp23.1
    rw [hI.err hrun24]
    exact ⟨rfl, hbad33 _ _ _ hp23⟩
  rw [hrun24] at hp23
  obtain rfl := hp23.1
  obtain ⟨d28x0, rfl⟩ := len1 hp23.2.2.1
  obtain ⟨F26, hs27⟩ := hok32 _ _ _ _ hp23
  replace hI := hI.ok hrun24
  clear hrun24
  go_wp2_with fail
  go_returns
  rw [hI.eq]
  exact hs27.done

end Go.Proofs.YthmdgbmodgfcmaaGreatDoor
/-
  What the reader's length does.
-/
namespace Go.Proofs.YthmdgbmodgfcmaaGreatDoor
open Go.RowKit

set_option maxHeartbeats 4000000 in
theorem length_does (E : Env) (f : Nat) (ih : Sp E f) : ∀ i, E.c.kindAt i = 4 → ¬ OOF (run E.c (f + 1) .length i) → Reads E 119 zAst i (run E.c (f + 1) .length i) := by
  intro i hk hne w F b t N o hr ha hb hF
  have hs0 : St E w F b t N o 9 w F i zAst := St.start hr ha hb hF
  obtain ⟨R, hI, hR⟩ := Is.start (run E.c (f + 1) .length i)
  show Calls _ _ _ _ (Post E F b t N o 9 w _)
  rw [hR] at hne ⊢
  clear hR hr ha hF
  rw [run_length] at hI
  have hl := strOfL_toList
  have hbr : ¬ b = E.rb := fun e => hb (.inl e)
  have hbr' : ¬ E.rb = b := fun e => hb (.inl e.symm)
  have hmf : ∀ (fn : Fn) (first cap : Array Value) (w : World), (Instr.makeFunc fn first cap).run Tryz.prog w = .ok (.func fn first cap) w := fun _ _ _ _ => rfl
  go_enter Tryz.func119, Tryz.ntmps119
  go_wp2_with fail
  refine (anyKey_yes E (i) _ hs0.rd hk).mono ?_
  rintro e w1 ⟨rfl, hr2, hm3⟩
  have hs4 := hs0.goes hr2 hm3
  obtain ⟨v5, c6, _⟩ := hs4.cur.cell 0 _ rfl
  simp only [Nat.add_zero] at c6
  have fz7 := hs4.cur.free (o)
  obtain ⟨v8, c9, _⟩ := hs4.cur.cell 2 _ rfl
  have fz10 := hs4.cur.free (o + 2)
  go_wp2_with fail
  have hs11 := hs4.set0 (by decide) (.int .i64 6) (.num 6) (fun _ => .num _ _)
  have hs12 := hs11.set 2 (by decide) (.string (strOfL (E.c.keyAt (i)))) (.str (E.c.keyAt (i))) (fun _ => .str _ _)
  rcases (Decidable.em (E.c.keyAt (i + 1) = [40])).symm with h13 | h13
  · refine (need_no E (i + 1) _ hs12.rd [40] h13).mono ?_
    rintro e w14 ⟨rfl, hm16⟩
    rw [hI.nno h13]
    exact ⟨rfl, hs12.bad hm16 _⟩
  refine (need_yes E (i + 1) _ hs12.rd [40] h13 (by decide)).mono ?_
  rintro e w14 ⟨rfl, hr15, hm16⟩
  have hs17 := hs12.goes hr15 hm16
  replace hI := hI.nyes h13
  go_wp2_with fail
  obtain ⟨Fi25, hat26, hown27, hok28, hbad29⟩ := hs17.call 4 3 (by decide)
  refine (ih.ref (i + 1 + 1) (hI.fuel hne) _ Fi25 _ _ _ (o + 4) hs17.rd hat26 hs17.nb hown27).mono ?_
  intro e w18 hp19
  rcases hrun20 : run E.c f .ref (i + 1 + 1) with m | ⟨d24, j21⟩
  · rw [hrun20] at hp19
    obtain rfl := hp19.1
    rw [hI.err hrun20]
    exact ⟨rfl, hbad29 _ _ _ hp19⟩
  rw [hrun20] at hp19
  obtain rfl := hp19.1
  obtain ⟨d24x0, d24x1, d24x2, rfl⟩ := len3 hp19.2.2.1
  obtain ⟨F22, hs23⟩ := hok28 _ _ _ _ hp19
  replace hI := hI.ok hrun20
  clear hrun20
  go_wp2_with fail
  rcases (Decidable.em (E.c.keyAt (j21) = [41])).symm with h30 | h30
  · refine (need_no E (j21) _ hs23.rd [41] h30).mono ?_
    rintro e w31 ⟨rfl, hm33⟩
    rw [hI.nno h30]
    exact ⟨rfl, hs23.bad hm33 _⟩
  refine (need_yes E (j21) _ hs23.rd [41] h30 (by decide)).mono ?_
  rintro e w31 ⟨rfl, hr32, hm33⟩
  have hs34 := hs23.goes hr32 hm33
  replace hI := hI.nyes h30
  go_wp2_with fail
  go_returns
  rw [hI.eq]
  exact hs34.done

end Go.Proofs.YthmdgbmodgfcmaaGreatDoor
/-
  What the reader's label does.
-/
namespace Go.Proofs.YthmdgbmodgfcmaaGreatDoor
open Go.RowKit

theorem row_form2 {w : World} {F : Nat → Prop} {v : Value} {t : Ty} {els : List (List D)} (h : DIs ty w F v (.row t els)) : ∃ ao cap, v = .slice ao els.length cap := by
  cases h with
  | nil => exact ⟨none, 0, rfl⟩
  | row _ _ _ _ g cap => exact ⟨_, cap, rfl⟩

set_option maxHeartbeats 4000000 in
theorem label_does (E : Env) (f : Nat) (ih : Sp E f) : ∀ (s : List UInt8) (ix : List (List D)) (hs : List Bool), Rds E (f + 1) 133 (splice zAst 4 (rf [s] ix hs)) (.label (aRef (rf [s] ix hs))) := by
  intro s ix hs i hne w F b t N o hr ha hb hF
  have hs0 : St E w F b t N o 9 w F i (splice zAst 4 (rf [s] ix hs)) := St.start hr ha hb hF
  obtain ⟨R, hI, hR⟩ := Is.start (run E.c (f + 1) (.label (aRef (rf [s] ix hs))) i)
  show Calls _ _ _ _ (Post E F b t N o 9 w _)
  rw [hR] at hne ⊢
  clear hR hr ha hF
  rw [run_label] at hI
  have hbr : ¬ b = E.rb := fun e => hb (.inl e)
  have hbr' : ¬ E.rb = b := fun e => hb (.inl e.symm)
  go_enter Tryz.func133, Tryz.ntmps133
  go_wp2_with fail
  rcases (Decidable.em (E.c.keyAt i = [64])).symm with h1 | h1
  · refine (need_no E i _ hs0.rd [64] h1).mono ?_
    rintro e w1 ⟨rfl, hm1⟩
    rw [hI.nno h1]
    exact ⟨rfl, hs0.bad hm1 _⟩
  refine (need_yes E i _ hs0.rd [64] h1 (by decide)).mono ?_
  rintro e w1 ⟨rfl, hr1, hm1⟩
  have hs1 := hs0.goes hr1 hm1
  replace hI := hI.nyes h1
  obtain ⟨cs, fp, g1, g2, g3, g4, g5⟩ := hs1.cur.ex
  have hroom := hs1.cur.room
  obtain ⟨v0, e0, _⟩ := g3 0 _ rfl
  obtain ⟨v1, e1, _⟩ := g3 1 _ rfl
  obtain ⟨v2, e2, _⟩ := g3 2 _ rfl
  obtain ⟨v3, e3, _⟩ := g3 3 _ rfl
  obtain ⟨v4, e4, D4⟩ := g3 4 (.row .str [[.str s]]) rfl
  obtain ⟨v5, e5, D5⟩ := g3 5 (.row .ast ix) rfl
  obtain ⟨v6, e6, _⟩ := g3 6 _ rfl
  obtain ⟨v7, e7, _⟩ := g3 7 _ rfl
  obtain ⟨v8, e8, _⟩ := g3 8 _ rfl
  obtain ⟨ao5, cap5, rfl⟩ := row_form2 D5
  simp only [Nat.add_zero] at e0
  cases D4 with
  | row _ Fe _ _ g cap cur hg h0 hn hc hsz hel hFg hFe hcells hd =>
    obtain ⟨u, hu⟩ := hcells 0 (.str s) rfl
    have hdu := hd 0 (.str s) u rfl hu
    cases hdu
    have cn : w1.cell? ⟨g, 0, none⟩ = some (.string (strOfL s)) := by rw [cell_blk hg]; exact hu
    have c0 : w1.cell? ⟨b, o, none⟩ = some v0 := by rw [cell_blk g1]; exact e0
    have c1 : w1.cell? ⟨b, o + 1, none⟩ = some v1 := by rw [cell_blk g1]; exact e1
    have c2 : w1.cell? ⟨b, o + 2, none⟩ = some v2 := by rw [cell_blk g1]; exact e2
    have c3 : w1.cell? ⟨b, o + 3, none⟩ = some v3 := by rw [cell_blk g1]; exact e3
    have c4 : w1.cell? ⟨b, o + 4, none⟩ = some (.slice (some ⟨g, 0, none⟩) 1 cap) := by rw [cell_blk g1]; exact e4
    have c5 : w1.cell? ⟨b, o + 5, none⟩ = some (.slice ao5 ix.length cap5) := by rw [cell_blk g1]; exact e5
    have c6 : w1.cell? ⟨b, o + 6, none⟩ = some v6 := by rw [cell_blk g1]; exact e6
    have c7 : w1.cell? ⟨b, o + 7, none⟩ = some v7 := by rw [cell_blk g1]; exact e7
    have c8 : w1.cell? ⟨b, o + 8, none⟩ = some v8 := by rw [cell_blk g1]; exact e8
    have hf : ∀ j, w1.frozen? ⟨b, j, none⟩ = false := fun j => free_blk g1 j
    have hnew : ∃ F2, St E w F b t N o 9 (set9 w1 b o (.int .i64 9) (.int .i64 0) (.string (strOfL s)) (.string ⟨#[]⟩) (.slice none 0 0) (.slice none 0 0) (.slice none 0 0) (.slice ao5 ix.length cap5) (.slice none 0 0)) F2 (i + 1) [.num 9, .num 0, .str s, .str [], .row .str [], .row .ast [], .row .bool [], .row .ast ix, .row .arg []] := by
      have hm9 := set9_mv w1 b o (.int .i64 9) (.int .i64 0) (.string (strOfL s)) (.string ⟨#[]⟩) (.slice none 0 0) (.slice none 0 0) (.slice none 0 0) (.slice ao5 ix.length cap5) (.slice none 0 0)
      have hb9 := set9_blk (o := o) (a0 := .int .i64 9) (a1 := .int .i64 0) (a2 := .string (strOfL s)) (a3 := .string ⟨#[]⟩) (a4 := .slice none 0 0) (a5 := .slice none 0 0) (a6 := .slice none 0 0) (a7 := .slice ao5 ix.length cap5) (a8 := .slice none 0 0) g1
      have hput := put9_in cs o (.int .i64 9) (.int .i64 0) (.string (strOfL s)) (.string ⟨#[]⟩) (.slice none 0 0) (.slice none 0 0) (.slice none 0 0) (.slice ao5 ix.length cap5) (.slice none 0 0) (by have := hs1.len; omega)
      refine ⟨F, hs1.anew (fp := fun j x => j = 7 ∧ fp 5 x) g1 hm9 hb9 (fun j hj => put9_out _ _ _ _ _ _ _ _ _ _ _ j hj) (by rw [put9_size]; exact g2) rfl (fun j d hd => ?_) (fun j x hx => g4 5 x hx.2) (fun j j' x hx hx' => hx.1.trans hx'.1.symm) (fun x hx => .inl hx)⟩
      have hj : j < 9 := (List.getElem?_eq_some_iff.1 hd).1
      have hcases : j = 0 ∨ j = 1 ∨ j = 2 ∨ j = 3 ∨ j = 4 ∨ j = 5 ∨ j = 6 ∨ j = 7 ∨ j = 8 := by omega
      rcases hcases with rfl | rfl | rfl | rfl | rfl | rfl | rfl | rfl | rfl
      all_goals (simp only [List.getElem?_cons_zero, List.getElem?_cons_succ, Option.some.injEq] at hd; subst hd; refine ⟨_, hput _ _ rfl, ?_⟩)
      · exact .num _ _
      · exact .num _ _
      · exact .str _ _
      · exact .str _ []
      · exact .nil _ _
      · exact .nil _ _
      · exact .nil _ _
      · exact (D5.kept fun x hx hlt => hm9.block x hlt fun e => hs1.cur.nb (by rw [← show x = b from e]; exact g4 5 x hx)).mono (fun x hx => ⟨rfl, hx⟩)
      · exact .nil _ _
    obtain ⟨F2, hs2⟩ := hnew
    have HD5 : Hid (DIs ty w1 (fp 5) (.slice ao5 ix.length cap5) (.row .ast ix)) := D5
    have H1 : Hid (w1.heap[b]? = some (.cells cs t (0, 0)) ∧ cs.size = N ∧ (∀ i x, fp i x → F x)) := ⟨g1, g2, g4⟩
    clear hg h0 hn hc hsz hel hFg hFe hcells hd hu e0 e1 e2 e3 e4 e5 e6 e7 e8 D5 g1 g2 g3 g4 g5
    go_wp2_with fail
    go_region
    all_goals go_wp2_with fail
    have hs3 := hs2.same (Mv.drew (fun _ => False) _)
    obtain ⟨Fi4, hat4, hown4, hok4, hbad4⟩ := hs3.call 3 1 (by decide)
    refine (ih.name [] (i + 1) (hI.fuel hne) _ Fi4 _ _ _ (o + 3) hs3.rd hat4 hs3.nb hown4).mono ?_
    intro e w5 hp5
    rcases hrun : run E.c f .name (i + 1) with m | ⟨d5, j5⟩
    · rw [hrun] at hp5
      obtain rfl := hp5.1
      rw [hI.err hrun]
      exact ⟨rfl, hbad4 _ _ _ hp5⟩
    rw [hrun] at hp5
    obtain rfl := hp5.1
    obtain ⟨x5, rfl⟩ := len1 hp5.2.2.1
    obtain ⟨F5, hs5⟩ := hok4 _ _ _ _ hp5
    replace hI := hI.ok hrun
    clear hrun
    go_wp2_with fail
    go_returns
    rw [hI.eq]
    exact hs5.done

end Go.Proofs.YthmdgbmodgfcmaaGreatDoor
/-
  What the reader's poll does.
-/
namespace Go.Proofs.YthmdgbmodgfcmaaGreatDoor
open Go.RowKit

set_option maxHeartbeats 4000000 in
theorem poll_does (E : Env) (f : Nat) (ih : Sp E f) : ∀ (ns : List (List UInt8)) (ix : List (List D)) (hs : List Bool) (i : Nat), E.c.kindAt i = 4 → ¬ OOF (run E.c (f + 1) (.poll (aRef (rf ns ix hs))) i) → Reads E 135 (splice zAst 4 (rf ns ix hs)) i (run E.c (f + 1) (.poll (aRef (rf ns ix hs))) i) := by
  intro ns ix hs i hk hne w F b t N o hr ha hb hF
  have hs0 : St E w F b t N o 9 w F i (splice zAst 4 (rf ns ix hs)) := St.start hr ha hb hF
  obtain ⟨R, hI, hR⟩ := Is.start (run E.c (f + 1) (.poll (aRef (rf ns ix hs))) i)
  show Calls _ _ _ _ (Post E F b t N o 9 w _)
  rw [hR] at hne ⊢
  clear hR hr ha hF
  rw [run_poll] at hI
  have hl := strOfL_toList
  have hbr : ¬ b = E.rb := fun e => hb (.inl e)
  have hbr' : ¬ E.rb = b := fun e => hb (.inl e.symm)
  have hmf : ∀ (fn : Fn) (first cap : Array Value) (w : World), (Instr.makeFunc fn first cap).run Tryz.prog w = .ok (.func fn first cap) w := fun _ _ _ _ => rfl
  go_enter Tryz.func135, Tryz.ntmps135
  go_wp2_with fail
  refine (anyKey_yes E (i) _ hs0.rd hk).mono ?_
  rintro e w1 ⟨rfl, hr2, hm3⟩
  have hs4 := hs0.goes hr2 hm3
  obtain ⟨v5, c6, _⟩ := hs4.cur.cell 0 _ rfl
  simp only [Nat.add_zero] at c6
  have fz7 := hs4.cur.free (o)
  obtain ⟨v8, c9, _⟩ := hs4.cur.cell 2 _ rfl
  have fz10 := hs4.cur.free (o + 2)
  go_wp2_with fail
  have hs11 := hs4.set0 (by decide) (.int .i64 7) (.num 7) (fun _ => .num _ _)
  have hs12 := hs11.set 2 (by decide) (.string (strOfL (E.c.keyAt (i)))) (.str (E.c.keyAt (i))) (fun _ => .str _ _)
  rcases (Decidable.em (E.c.keyAt (i + 1) = [91])).symm with h13 | h13
  · refine (need_no E (i + 1) _ hs12.rd [91] h13).mono ?_
    rintro e w14 ⟨rfl, hm16⟩
    rw [hI.nno h13]
    exact ⟨rfl, hs12.bad hm16 _⟩
  refine (need_yes E (i + 1) _ hs12.rd [91] h13 (by decide)).mono ?_
  rintro e w14 ⟨rfl, hr15, hm16⟩
  have hs17 := hs12.goes hr15 hm16
  replace hI := hI.nyes h13
  go_wp2_with fail
  obtain ⟨Fi25, hat26, hown27, hok28, hbad29⟩ := hs17.call 8 1 (by decide)
  refine (ih.msgArg (i + 1 + 1) (hI.fuel hne) _ Fi25 _ _ _ (o + 8) hs17.rd hat26 hs17.nb hown27).mono ?_
  intro e w18 hp19
  rcases hrun20 : run E.c f (.message .arg .arg) (i + 1 + 1) with m | ⟨d24, j21⟩
  · rw [hrun20] at hp19
    obtain rfl := hp19.1
    rw [hI.err hrun20]
    exact ⟨rfl, hbad29 _ _ _ hp19⟩
  rw [hrun20] at hp19
  obtain rfl := hp19.1
  obtain ⟨d24x0, rfl⟩ := len1 hp19.2.2.1
  obtain ⟨F22, hs23⟩ := hok28 _ _ _ _ hp19
  replace hI := hI.ok hrun20
  clear hrun20
  go_wp2_with fail
  rcases (Decidable.em (E.c.keyAt (j21) = [93])).symm with h30 | h30
  · refine (need_no E (j21) _ hs23.rd [93] h30).mono ?_
    rintro e w31 ⟨rfl, hm33⟩
    rw [hI.nno h30]
    exact ⟨rfl, hs23.bad hm33 _⟩
  refine (need_yes E (j21) _ hs23.rd [93] h30 (by decide)).mono ?_
  rintro e w31 ⟨rfl, hr32, hm33⟩
  have hs34 := hs23.goes hr32 hm33
  replace hI := hI.nyes h30
  go_wp2_with fail
  go_returns
  rw [hI.eq]
  exact hs34.done

end Go.Proofs.YthmdgbmodgfcmaaGreatDoor
/-
  A row to which an element is appended that is known: laws on worlds.
-/
namespace Go.Proofs.YthmdgbmodgfcmaaGreatDoor
open Go.RowKit

section
variable {E : Env} {w0 w : World} {F0 F : Nat → Prop} {b : Nat} {t : TypeId} {N o k i : Nat} {ds : List D}

theorem St.grow (h : St E w0 F0 b t N o k w F i ds) (q : Nat) (T : Ty) (els : List (List D)) (hq : ds[q]? = some (.row T els)) :
    ∃ v xs, w.cell? ⟨b, o + q, none⟩ = some v ∧ w.ownsRow 0 (ty.id T) (ty.size T) v els.length xs ∧ (∀ x, v.ownBlock = some x → x ≠ b) ∧
      (∀ (w1 w2 : World) (news : List Value) (e : List D) (g cap : Nat), Mv (fun _ => False) w w1 → w1.grownBy w2 v.ownBlock → w2.ownsRow 0 (ty.id T) (ty.size T) (.slice (some ⟨g, 0, none⟩) (els.length + 1) cap) (els.length + 1) (xs ++ news) →
        (v.ownBlock = some g ∨ g = w1.heap.size) → e.length = ty.size T → (∀ (j : Nat) (d : D), e[j]? = some d → ∃ u, news[j]? = some u ∧ ∀ w' : World, DIs ty w' (fun _ => False) u d) →
        (∃ F', St E w0 F0 b t N o k (w2.setCell ⟨b, o + q, none⟩ (.slice (some ⟨g, 0, none⟩) (els.length + 1) cap)) F' i (ds.set q (.row T (els ++ [e])))) ∧ w2.cell? ⟨b, o + q, none⟩ = some v ∧ (∀ j, w2.frozen? ⟨b, j, none⟩ = false) ∧ ¬ g = b ∧ b < w2.heap.size) := by
  obtain ⟨cs, fp, h1, h2, h3, h4, h5⟩ := h.cur.ex
  obtain ⟨v, hv, hdv⟩ := h3 q _ hq
  have hql : q < ds.length := (List.getElem?_eq_some_iff.1 hq).1
  have hroom := h.cur.room
  have hlen := h.len
  have hblt := h.cur.blt
  obtain ⟨xs, Fe, hown, hblk, hFe, hsz, hold⟩ := hdv.owns
  have hvb : ∀ x, v.ownBlock = some x → x ≠ b := fun x hx e => h.cur.nb (by rw [← e]; exact h4 q x (hblk x hx).1)
  refine ⟨v, xs, by rw [cell_blk h1]; exact hv, hown, hvb, fun w1 w2 news e g cap hm1 hg hown2 hat he hnews => ?_⟩
  have hm2 := Mv.grown hg
  have hgb : ¬ g = b := by
    rcases hat with hx | hx
    · exact hvb g hx
    · have := hm1.size; omega
  have hb1 : w1.heap[b]? = some (.cells cs t (0, 0)) := hm1.heap h1 id
  have hb2 : w2.heap[b]? = some (.cells cs t (0, 0)) := hm2.heap hb1 (fun hx => hvb b hx rfl)
  refine ⟨?_, by rw [cell_blk hb2]; exact hv, fun j => free_blk hb2 j, hgb, lt_of_block hb2⟩
  have hm3 := Mv.setCell w2 ⟨b, o + q, none⟩ (.slice (some ⟨g, 0, none⟩) (els.length + 1) cap)
  have hb3 := setCell_blk (i := o + q) (u := .slice (some ⟨g, 0, none⟩) (els.length + 1) cap) hb2
  obtain ⟨hlen2, hform⟩ := hown2
  rcases hform with ⟨hx, _⟩ | ⟨g', cap', cur, hx, _, hcur, hn, hc, hsize, htake⟩
  · cases hx
  obtain ⟨rfl, rfl⟩ : g = g' ∧ cap = cap' := by injection hx with h1 h2 h3; injection h1 with h1; injection h1 with h1; exact ⟨h1, h3⟩
  generalize hw3 : w2.setCell ⟨b, o + q, none⟩ (.slice (some ⟨g, 0, none⟩) (els.length + 1) cap) = w3 at *
  have hcur3 : w3.heap[g]? = some (.cells cur (ty.id T) (0, 0)) := hm3.heap hcur hgb
  have hfl := flat_len hsz
  have hxs := hown.1
  have hget : ∀ (j : Nat) (u : Value), (xs ++ news)[j]? = some u → cur[j]? = some u := fun j u hu => by
    rw [← htake, List.getElem?_take] at hu
    split at hu
    · simpa using hu
    · cases hu
  have hmall : Mv (fun x => x = b ∨ fp q x) w w3 := ((hm1.mono (fun _ h => h.elim)).trans (hm2.mono (T := fun x => x = b ∨ fp q x) (fun x hx => .inl (.inr (hblk x hx).1))) (fun x hx => .inl hx)).trans hm3 (fun x hx => .inl (.inl hx))
  have hkeepE : ∀ x, Fe x → x < w.heap.size → w3.heap[x]? = w.heap[x]? := fun x hx hlt =>
    (hm3.block x (Nat.lt_of_lt_of_le hlt (Nat.le_trans hm1.size hm2.size)) (fun e => h.cur.nb (by rw [← show x = b from e]; exact h4 q x (hFe x hx)))).trans ((hm2.block x (Nat.lt_of_lt_of_le hlt hm1.size) (fun e => (hblk x e).2 hx)).trans (hm1.block x hlt id))
  have hgF : F g ∨ w.heap.size ≤ g := hat.elim (fun hx => .inl (h4 q g (hblk g hx).1)) (fun hx => .inr (by rw [hx]; exact hm1.size))
  have hg3 : g < w3.heap.size := lt_of_block hcur3
  have hsz3 : w.heap.size ≤ w3.heap.size := hmall.size
  have hdis : DIs ty w3 (fun x => fp q x ∨ x = g) (.slice (some ⟨g, 0, none⟩) (els ++ [e]).length cap) (.row T (els ++ [e])) := by
    refine DIs.of_block (Fe := Fe) hcur3 (by simp) (by simpa using hn) hc hsize (fun a ha => ?_) (.inr rfl) (fun x hxe => ⟨.inl (hFe x hxe), fun e => ?_⟩) (fun j d hd => ?_)
    · rcases List.mem_append.1 ha with ha | ha
      · exact hsz a ha
      · simp at ha; subst ha; exact he
    · subst e
      rcases hat with hy | hy
      · exact (hblk _ hy).2 hxe
      · have := h.cur.lt _ (h4 q _ (hFe _ hxe)); have := hm1.size; omega
    · rw [List.flatten_append, List.flatten_singleton] at hd
      by_cases hj : j < els.flatten.length
      · rw [List.getElem?_append_left hj] at hd
        obtain ⟨u, hu, hdu⟩ := hold j d hd
        exact ⟨u, hget j u (by rw [List.getElem?_append_left (List.getElem?_eq_some_iff.1 hu).1]; exact hu), hdu.kept hkeepE⟩
      · rw [List.getElem?_append_right (by omega)] at hd
        obtain ⟨u, hu, hdu⟩ := hnews _ d hd
        exact ⟨u, hget j u (by rw [List.getElem?_append_right (by omega), ← hu]; congr 1; omega), (hdu w3).mono (fun _ h => h.elim)⟩
  have hlen1 : (els ++ [e]).length = els.length + 1 := by simp
  rw [hlen1] at hdis
  refine ⟨fun x => F x ∨ x = g, h.rd.kept hmall ?_ ?_ ?_, ⟨⟨_, fun p x => if p = q then fp q x ∨ x = g else fp p x, hb3, by simpa using h2, fun p d hp => ?_, fun p x hx => ?_, fun p p' x hx hx' => ?_⟩, by simpa using hroom, ?_, ?_⟩, by simpa using hlen, h.mv.trans hmall (fun x hx => ?_), fun y hy => ?_, ?_, h.nb, ?_, h.nF0⟩
  · rintro (e | e)
    · exact h.nb (.inl e.symm)
    · exact h.nF _ (h4 q _ e) (.inl rfl)
  · rintro (e | e)
    · exact h.nb (.inr (.inl e.symm))
    · exact h.nF _ (h4 q _ e) (.inr (.inl rfl))
  · rintro (e | e)
    · exact h.nb (.inr (.inr e.symm))
    · exact h.nF _ (h4 q _ e) (.inr (.inr rfl))
  · by_cases hpq : p = q
    · subst hpq
      rw [List.getElem?_set_self hql] at hp
      cases hp
      exact ⟨_, by rw [Array.getElem?_setIfInBounds_self, if_pos (by omega)], hdis.mono (fun x hx => Eq.mpr (if_pos rfl) hx)⟩
    · rw [List.getElem?_set_ne (Ne.symm hpq)] at hp
      obtain ⟨u, hu, hdu⟩ := h3 p d hp
      refine ⟨u, by rw [Array.getElem?_setIfInBounds_ne (by omega)]; exact hu, (hdu.kept fun x hx hlt => hmall.block x hlt ?_).mono (fun x hx => Eq.mpr (if_neg hpq) hx)⟩
      rintro (e | e)
      · exact h.cur.nb (by rw [← e]; exact h4 p x hx)
      · exact hpq (h5 p q x hx e)
  · simp only at hx
    split at hx
    · exact hx.elim (fun hx => .inl (h4 q x hx)) .inr
    · exact .inl (h4 p x hx)
  · simp only at hx hx'
    have key : ∀ r, r ≠ q → fp r x → (fp q x ∨ x = g) → False := fun r hr hfr hfq => by
      rcases hfq with hfq | rfl
      · exact hr (h5 r q x hfr hfq)
      · rcases hat with hy | hy
        · exact hr (h5 r q _ hfr (hblk _ hy).1)
        · have := h.cur.lt _ (h4 r _ hfr); have := hm1.size; omega
    split at hx <;> split at hx'
    · omega
    · rename_i ha hb
      exact (key p' hb hx' hx).elim
    · rename_i ha hb
      exact (key p ha hx hx').elim
    · exact h5 _ _ x hx hx'
  · rintro (hx | hx)
    · exact h.cur.nb hx
    · exact hgb hx.symm
  · rintro x (hx | rfl)
    · exact Nat.lt_of_lt_of_le (h.cur.lt x hx) hsz3
    · exact hg3
  · rcases hx with hx | hx
    · exact .inl (.inr (.inl hx))
    · exact (h.fr x (h4 q x hx)).elim (fun h => .inl (.inr (.inr h))) .inr
  · have e1 : w3.cell? ⟨b, y, none⟩ = w.cell? ⟨b, y, none⟩ := by
      rw [cell_blk hb3, cell_blk h1, Array.getElem?_setIfInBounds_ne (by omega)]
    exact e1.trans (h.out y hy)
  · rintro x (hx | rfl)
    · exact h.fr x hx
    · exact hgF.elim (h.fr _) (fun hx => .inr (Nat.le_trans h.mv.size hx))
  · rintro x (hx | rfl)
    · exact h.nF x hx
    · rcases hgF with hx | hx
      · exact h.nF _ hx
      · rintro (e | e | e)
        · have := h.rd.rlt; omega
        · have := h.rd.wlt; omega
        · have := h.rd.tn.lt; omega
end

end Go.Proofs.YthmdgbmodgfcmaaGreatDoor
/-
  What the reader's index does.
-/
namespace Go.Proofs.YthmdgbmodgfcmaaGreatDoor
open Go.RowKit

set_option maxHeartbeats 4000000 in
theorem index_does (E : Env) (f : Nat) (ih : Sp E f) : Rds E (f + 1) 106 zAst .index := by
  intro i hne w F b t N o hr ha hb hF
  have hs0 : St E w F b t N o 9 w F i zAst := St.start hr ha hb hF
  obtain ⟨R, hI, hR⟩ := Is.start (run E.c (f + 1) .index i)
  show Calls _ _ _ _ (Post E F b t N o 9 w _)
  rw [hR] at hne ⊢
  clear hR hr ha hF
  rw [run_index] at hI
  have hl := strOfL_toList
  have hbr : ¬ b = E.rb := fun e => hb (.inl e)
  have hbr' : ¬ E.rb = b := fun e => hb (.inl e.symm)
  have hmf : ∀ (fn : Fn) (first cap : Array Value) (w : World), (Instr.makeFunc fn first cap).run Tryz.prog w = .ok (.func fn first cap) w := fun _ _ _ _ => rfl
  go_enter Tryz.func106, Tryz.ntmps106
  go_wp2_with fail
  rcases (Decidable.em (E.c.keyAt (i) = [91])).symm with h1 | h1
  · refine (need_no E (i) _ hs0.rd [91] h1).mono ?_
    rintro e w2 ⟨rfl, hm4⟩
    rw [hI.nno h1]
    exact ⟨rfl, hs0.bad hm4 _⟩
  refine (need_yes E (i) _ hs0.rd [91] h1 (by decide)).mono ?_
  rintro e w2 ⟨rfl, hr3, hm4⟩
  have hs5 := hs0.goes hr3 hm4
  replace hI := hI.nyes h1
  go_wp2_with fail
  refine (ih.expr (i + 1) (hI.fuel hne) _ _ _ _ _ _ hs5.rd hs5.cur hs5.nb hs5.nF).mono ?_
  intro e w6 hp7
  rcases hrun8 : run E.c f .expr (i + 1) with m | ⟨d12, j9⟩
  · rw [hrun8] at hp7
    obtain rfl := hp7.1
    rw [hI.err hrun8]
    exact ⟨rfl, hs5.wholeBad hp7⟩
  rw [hrun8] at hp7
  obtain rfl := hp7.1
  obtain ⟨F10, hs11⟩ := hs5.whole hp7
  replace hI := hI.ok hrun8
  clear hrun8
  go_wp2_with fail
  rcases (Decidable.em (E.c.keyAt (j9) = [93])).symm with h13 | h13
  · refine (need_no E (j9) _ hs11.rd [93] h13).mono ?_
    rintro e w14 ⟨rfl, hm16⟩
    rw [hI.nno h13]
    exact ⟨rfl, hs11.bad hm16 _⟩
  refine (need_yes E (j9) _ hs11.rd [93] h13 (by decide)).mono ?_
  rintro e w14 ⟨rfl, hr15, hm16⟩
  have hs17 := hs11.goes hr15 hm16
  replace hI := hI.nyes h13
  go_wp2_with fail
  go_returns
  rw [hI.eq]
  exact hs17.done

end Go.Proofs.YthmdgbmodgfcmaaGreatDoor
/-
  What the reader's arg does.
-/
namespace Go.Proofs.YthmdgbmodgfcmaaGreatDoor
open Go.RowKit

set_option maxHeartbeats 4000000 in
theorem arg_does (E : Env) (f : Nat) (ih : Sp E f) : Rds E (f + 1) 146 zArg .arg := by
  intro i hne w F b t N o hr ha hb hF
  have hs0 : St E w F b t N o 11 w F i zArg := St.start hr ha hb hF
  obtain ⟨R, hI, hR⟩ := Is.start (run E.c (f + 1) .arg i)
  show Calls _ _ _ _ (Post E F b t N o 11 w _)
  rw [hR] at hne ⊢
  clear hR hr ha hF
  rw [run_arg] at hI
  have hl := strOfL_toList
  have hbr : ¬ b = E.rb := fun e => hb (.inl e)
  have hbr' : ¬ E.rb = b := fun e => hb (.inl e.symm)
  have hmf : ∀ (fn : Fn) (first cap : Array Value) (w : World), (Instr.makeFunc fn first cap).run Tryz.prog w = .ok (.func fn first cap) w := fun _ _ _ _ => rfl
  go_enter Tryz.func146, Tryz.ntmps146
  go_wp2_with fail
  refine (kind_any E (i) _ hs0.rd 0 (i) (by omega) (by omega)).mono ?_
  rintro e w1 ⟨rfl, hm2⟩
  have hs3 := hs0.same hm2
  rcases Decidable.em (E.c.kindAt (i) = 1) with h4 | h4
  · have hbh4 : ((E.c.kindAt (i) : Int) == 1) = true := by rw [h4]; rfl
    replace hI := hI.pos h4
    obtain ⟨v5, c6, _⟩ := hs3.cur.cell 2 _ rfl
    have fz7 := hs3.cur.free (o + 2)
    go_wp2_with fail
    have hs8 := hs3.set 2 (by decide) (.int .i64 2) (.num 2) (fun _ => .num _ _)
    obtain ⟨Fi16, hat17, hown18, hok19, hbad20⟩ := hs8.call 6 3 (by decide)
    refine (ih.ref (i) (hI.fuel hne) _ Fi16 _ _ _ (o + 6) hs8.rd hat17 hs8.nb hown18).mono ?_
    intro e w9 hp10
    rcases hrun11 : run E.c f .ref (i) with m | ⟨d15, j12⟩
    · rw [hrun11] at hp10
      obtain rfl := hp10.1
      rw [hI.err hrun11]
      exact ⟨rfl, hbad20 _ _ _ hp10⟩
    rw [hrun11] at hp10
    obtain rfl := hp10.1
    obtain ⟨d15x0, d15x1, d15x2, rfl⟩ := len3 hp10.2.2.1
    obtain ⟨F13, hs14⟩ := hok19 _ _ _ _ hp10
    replace hI := hI.ok hrun11
    clear hrun11
    go_wp2_with fail
    go_returns
    rw [hI.eq]
    exact hs14.done
  have hbh4 : ((E.c.kindAt (i) : Int) == 1) = false := by rw [beq_eq_false_iff_ne]; omega
  replace hI := hI.neg h4
  go_wp2_with fail
  rcases Decidable.em (E.c.keyAt (i) = [95]) with h21 | h21
  · refine (take_yes E (i) _ hs3.rd [95] h21 (by decide)).mono ?_
    rintro e w22 ⟨rfl, hr23, hm24⟩
    have hs25 := hs3.goes hr23 hm24
    replace hI := hI.pos h21
    obtain ⟨v26, c27, _⟩ := hs25.cur.cell 1 _ rfl
    have fz28 := hs25.cur.free (o + 1)
    go_wp2_with fail
    have hs29 := hs25.set 1 (by decide) (.bool true) (.bit true) (fun _ => .bit _ _)
    go_returns
    rw [hI.eq]
    exact hs29.done
  · refine (take_no E (i) _ hs3.rd [95] h21).mono ?_
    rintro e w22 ⟨rfl, hm24⟩
    have hs25 := hs3.same hm24
    replace hI := hI.neg h21
    go_wp2_with fail
    rcases Decidable.em (E.c.keyAt (i) = [101, 118, 97, 108]) with h30 | h30
    · refine (take_yes E (i) _ hs25.rd [101, 118, 97, 108] h30 (by decide)).mono ?_
      rintro e w31 ⟨rfl, hr32, hm33⟩
      have hs34 := hs25.goes hr32 hm33
      replace hI := hI.pos h30
      obtain ⟨v35, c36, _⟩ := hs34.cur.cell 0 _ rfl
      simp only [Nat.add_zero] at c36
      have fz37 := hs34.cur.free (o)
      go_wp2_with fail
      have hs38 := hs34.set0 (by decide) (.bool true) (.bit true) (fun _ => .bit _ _)
      rcases (Decidable.em (E.c.keyAt (i + 1) = [40])).symm with h39 | h39
      · refine (need_no E (i + 1) _ hs38.rd [40] h39).mono ?_
        rintro e w40 ⟨rfl, hm42⟩
        rw [hI.nno h39]
        exact ⟨rfl, hs38.bad hm42 _⟩
      refine (need_yes E (i + 1) _ hs38.rd [40] h39 (by decide)).mono ?_
      rintro e w40 ⟨rfl, hr41, hm42⟩
      have hs43 := hs38.goes hr41 hm42
      replace hI := hI.nyes h39
      go_wp2_with fail
      obtain ⟨Fi51, hat52, hown53, hok54, hbad55⟩ := hs43.call 2 9 (by decide)
      refine (ih.expr (i + 1 + 1) (hI.fuel hne) _ Fi51 _ _ _ (o + 2) hs43.rd hat52 hs43.nb hown53).mono ?_
      intro e w44 hp45
      rcases hrun46 : run E.c f .expr (i + 1 + 1) with m | ⟨d50, j47⟩
      · rw [hrun46] at hp45
        obtain rfl := hp45.1
        rw [hI.err hrun46]
        exact ⟨rfl, hbad55 _ _ _ hp45⟩
      rw [hrun46] at hp45
      obtain rfl := hp45.1
      obtain ⟨d50x0, d50x1, d50x2, d50x3, d50x4, d50x5, d50x6, d50x7, d50x8, rfl⟩ := len9 hp45.2.2.1
      obtain ⟨F48, hs49⟩ := hok54 _ _ _ _ hp45
      replace hI := hI.ok hrun46
      clear hrun46
      go_wp2_with fail
      rcases (Decidable.em (E.c.keyAt (j47) = [41])).symm with h56 | h56
      · refine (need_no E (j47) _ hs49.rd [41] h56).mono ?_
        rintro e w57 ⟨rfl, hm59⟩
        rw [hI.nno h56]
        exact ⟨rfl, hs49.bad hm59 _⟩
      refine (need_yes E (j47) _ hs49.rd [41] h56 (by decide)).mono ?_
      rintro e w57 ⟨rfl, hr58, hm59⟩
      have hs60 := hs49.goes hr58 hm59
      replace hI := hI.nyes h56
      go_wp2_with fail
      go_returns
      rw [hI.eq]
      exact hs60.done
    · refine (take_no E (i) _ hs25.rd [101, 118, 97, 108] h30).mono ?_
      rintro e w31 ⟨rfl, hm33⟩
      have hs34 := hs25.same hm33
      replace hI := hI.neg h30
      go_wp2_with fail
      refine (kind_any E (i) _ hs34.rd 0 (i) (by omega) (by omega)).mono ?_
      rintro e w61 ⟨rfl, hm62⟩
      have hs63 := hs34.same hm62
      rcases Decidable.em (E.c.kindAt (i) = 2) with h64 | h64
      · have hbh64 : ((E.c.kindAt (i) : Int) == 2) = true := by rw [h64]; rfl
        replace hI := hI.pos (.inl h64)
        obtain ⟨v65, c66, _⟩ := hs63.cur.cell 0 _ rfl
        simp only [Nat.add_zero] at c66
        have fz67 := hs63.cur.free (o)
        go_wp2_with fail
        have hs68 := hs63.set0 (by decide) (.bool true) (.bit true) (fun _ => .bit _ _)
        obtain ⟨Fi76, hat77, hown78, hok79, hbad80⟩ := hs68.call 2 9 (by decide)
        refine (ih.unary (i) (hI.fuel hne) _ Fi76 _ _ _ (o + 2) hs68.rd hat77 hs68.nb hown78).mono ?_
        intro e w69 hp70
        rcases hrun71 : run E.c f .unary (i) with m | ⟨d75, j72⟩
        · rw [hrun71] at hp70
          obtain rfl := hp70.1
          rw [hI.err hrun71]
          exact ⟨rfl, hbad80 _ _ _ hp70⟩
        rw [hrun71] at hp70
        obtain rfl := hp70.1
        obtain ⟨d75x0, d75x1, d75x2, d75x3, d75x4, d75x5, d75x6, d75x7, d75x8, rfl⟩ := len9 hp70.2.2.1
        obtain ⟨F73, hs74⟩ := hok79 _ _ _ _ hp70
        replace hI := hI.ok hrun71
        clear hrun71
        go_wp2_with fail
        go_returns
        rw [hI.eq]
        exact hs74.done
      have hbh64 : ((E.c.kindAt (i) : Int) == 2) = false := by rw [beq_eq_false_iff_ne]; omega
      go_wp2_with fail
      refine (is_any E (i) _ hs63.rd [45]).mono ?_
      rintro e w82 ⟨rfl, hm83⟩
      have hs84 := hs63.same hm83
      rcases Decidable.em (E.c.keyAt (i) = [45]) with h81 | h81
      · rw [decide_eq_true h81]
        replace hI := hI.pos (.inr (.inl h81))
        obtain ⟨v85, c86, _⟩ := hs84.cur.cell 0 _ rfl
        simp only [Nat.add_zero] at c86
        have fz87 := hs84.cur.free (o)
        go_wp2_with fail
        have hs88 := hs84.set0 (by decide) (.bool true) (.bit true) (fun _ => .bit _ _)
        obtain ⟨Fi96, hat97, hown98, hok99, hbad100⟩ := hs88.call 2 9 (by decide)
        refine (ih.unary (i) (hI.fuel hne) _ Fi96 _ _ _ (o + 2) hs88.rd hat97 hs88.nb hown98).mono ?_
        intro e w89 hp90
        rcases hrun91 : run E.c f .unary (i) with m | ⟨d95, j92⟩
        · rw [hrun91] at hp90
          obtain rfl := hp90.1
          rw [hI.err hrun91]
          exact ⟨rfl, hbad100 _ _ _ hp90⟩
        rw [hrun91] at hp90
        obtain rfl := hp90.1
        obtain ⟨d95x0, d95x1, d95x2, d95x3, d95x4, d95x5, d95x6, d95x7, d95x8, rfl⟩ := len9 hp90.2.2.1
        obtain ⟨F93, hs94⟩ := hok99 _ _ _ _ hp90
        replace hI := hI.ok hrun91
        clear hrun91
        go_wp2_with fail
        go_returns
        rw [hI.eq]
        exact hs94.done
      rw [decide_eq_false h81]
      go_wp2_with fail
      refine (is_any E (i) _ hs84.rd [116, 114, 117, 101]).mono ?_
      rintro e w102 ⟨rfl, hm103⟩
      have hs104 := hs84.same hm103
      rcases Decidable.em (E.c.keyAt (i) = [116, 114, 117, 101]) with h101 | h101
      · rw [decide_eq_true h101]
        replace hI := hI.pos (.inr (.inr (.inl h101)))
        obtain ⟨v105, c106, _⟩ := hs104.cur.cell 0 _ rfl
        simp only [Nat.add_zero] at c106
        have fz107 := hs104.cur.free (o)
        go_wp2_with fail
        have hs108 := hs104.set0 (by decide) (.bool true) (.bit true) (fun _ => .bit _ _)
        obtain ⟨Fi116, hat117, hown118, hok119, hbad120⟩ := hs108.call 2 9 (by decide)
        refine (ih.unary (i) (hI.fuel hne) _ Fi116 _ _ _ (o + 2) hs108.rd hat117 hs108.nb hown118).mono ?_
        intro e w109 hp110
        rcases hrun111 : run E.c f .unary (i) with m | ⟨d115, j112⟩
        · rw [hrun111] at hp110
          obtain rfl := hp110.1
          rw [hI.err hrun111]
          exact ⟨rfl, hbad120 _ _ _ hp110⟩
        rw [hrun111] at hp110
        obtain rfl := hp110.1
        obtain ⟨d115x0, d115x1, d115x2, d115x3, d115x4, d115x5, d115x6, d115x7, d115x8, rfl⟩ := len9 hp110.2.2.1
        obtain ⟨F113, hs114⟩ := hok119 _ _ _ _ hp110
        replace hI := hI.ok hrun111
        clear hrun111
        go_wp2_with fail
        go_returns
        rw [hI.eq]
        exact hs114.done
      rw [decide_eq_false h101]
      go_wp2_with fail
      refine (is_any E (i) _ hs104.rd [102, 97, 108, 115, 101]).mono ?_
      rintro e w122 ⟨rfl, hm123⟩
      have hs124 := hs104.same hm123
      rcases Decidable.em (E.c.keyAt (i) = [102, 97, 108, 115, 101]) with h121 | h121
      · rw [decide_eq_true h121]
        replace hI := hI.pos (.inr (.inr (.inr h121)))
        obtain ⟨v125, c126, _⟩ := hs124.cur.cell 0 _ rfl
        simp only [Nat.add_zero] at c126
        have fz127 := hs124.cur.free (o)
        go_wp2_with fail
        have hs128 := hs124.set0 (by decide) (.bool true) (.bit true) (fun _ => .bit _ _)
        obtain ⟨Fi136, hat137, hown138, hok139, hbad140⟩ := hs128.call 2 9 (by decide)
        refine (ih.unary (i) (hI.fuel hne) _ Fi136 _ _ _ (o + 2) hs128.rd hat137 hs128.nb hown138).mono ?_
        intro e w129 hp130
        rcases hrun131 : run E.c f .unary (i) with m | ⟨d135, j132⟩
        · rw [hrun131] at hp130
          obtain rfl := hp130.1
          rw [hI.err hrun131]
          exact ⟨rfl, hbad140 _ _ _ hp130⟩
        rw [hrun131] at hp130
        obtain rfl := hp130.1
        obtain ⟨d135x0, d135x1, d135x2, d135x3, d135x4, d135x5, d135x6, d135x7, d135x8, rfl⟩ := len9 hp130.2.2.1
        obtain ⟨F133, hs134⟩ := hok139 _ _ _ _ hp130
        replace hI := hI.ok hrun131
        clear hrun131
        go_wp2_with fail
        go_returns
        rw [hI.eq]
        exact hs134.done
      rw [decide_eq_false h121]
      replace hI := hI.neg (by simp only [h64, h81, h101, h121, or_self, not_false_eq_true])
      go_wp2_with fail
      refine (refuse_any E (i) _ hs124.rd).mono ?_
      rintro e w141 ⟨rfl, hm142⟩
      rw [hI.eq]
      exact ⟨rfl, hs124.bad hm142 _⟩

end Go.Proofs.YthmdgbmodgfcmaaGreatDoor
/-
  What the reader's inParens does.
-/
namespace Go.Proofs.YthmdgbmodgfcmaaGreatDoor
open Go.RowKit

set_option maxHeartbeats 4000000 in
theorem inParensString_does (E : Env) (f : Nat) (hf : f + 1 ≤ 1000000) (ih : Sp E f) : RowRds E (f + 1) 82 78 .str [] (.inParens .name .str) := by
  intro i hne w F b t N o hr ha hb hF
  have hs0 : St E w F b t N o 1 w F i [.row .str []] := St.start hr ha hb hF
  obtain ⟨R, hI, hR⟩ := Is.start (run E.c (f + 1) (.inParens .name .str) i)
  show Calls _ _ _ _ (Post E F b t N o 1 w _)
  rw [hR] at hne ⊢
  clear hR hr ha hF
  rw [run_inParens] at hI
  have hl := strOfL_toList
  have hbr : ¬ b = E.rb := fun e => hb (.inl e)
  have hbr' : ¬ E.rb = b := fun e => hb (.inl e.symm)
  have hmf : ∀ (fn : Fn) (first cap : Array Value) (w : World), (Instr.makeFunc fn first cap).run Tryz.prog w = .ok (.func fn first cap) w := fun _ _ _ _ => rfl
  go_enter Tryz.func82, Tryz.ntmps82
  go_wp2_with fail
  rcases (Decidable.em (E.c.keyAt (i) = [40])).symm with h1 | h1
  · refine (need_no E (i) _ hs0.rd [40] h1).mono ?_
    rintro e w2 ⟨rfl, hm4⟩
    rw [hI.nno h1]
    exact ⟨rfl, hs0.bad hm4 _⟩
  refine (need_yes E (i) _ hs0.rd [40] h1 (by decide)).mono ?_
  rintro e w2 ⟨rfl, hr3, hm4⟩
  have hs5 := hs0.goes hr3 hm4
  replace hI := hI.nyes h1
  go_wp2_with fail
  refine (is_any E (i + 1) _ hs5.rd [41]).mono ?_
  rintro e w7 ⟨rfl, hm8⟩
  have hs9 := hs5.same hm8
  rcases Decidable.em (E.c.keyAt (i + 1) = [41]) with h6 | h6
  · rw [decide_eq_true h6]
    replace hI := hI.pos h6
    go_wp2_with fail
    rcases (Decidable.em (E.c.keyAt (i + 1) = [41])).symm with h10 | h10
    · refine (need_no E (i + 1) _ hs9.rd [41] h10).mono ?_
      rintro e w11 ⟨rfl, hm13⟩
      rw [hI.nno h10]
      exact ⟨rfl, hs9.bad hm13 _⟩
    refine (need_yes E (i + 1) _ hs9.rd [41] h10 (by decide)).mono ?_
    rintro e w11 ⟨rfl, hr12, hm13⟩
    have hs14 := hs9.goes hr12 hm13
    replace hI := hI.nyes h10
    go_wp2_with fail
    go_returns
    rw [hI.eq]
    exact hs14.done
  · rw [decide_eq_false h6]
    replace hI := hI.neg h6
    go_wp2_with fail
    refine (ih.rowStr [] (by simp; omega) (i + 1) (hI.fuel hne) _ _ _ _ _ _ hs9.rd hs9.cur hs9.nb hs9.nF).mono ?_
    intro e w15 hp16
    rcases hrun17 : run E.c f (.row .name .str []) (i + 1) with m | ⟨d21, j18⟩
    · rw [hrun17] at hp16
      obtain rfl := hp16.1
      rw [hI.err hrun17]
      exact ⟨rfl, hs9.wholeBad hp16⟩
    rw [hrun17] at hp16
    obtain rfl := hp16.1
    obtain ⟨F19, hs20⟩ := hs9.whole hp16
    replace hI := hI.ok hrun17
    clear hrun17
    go_wp2_with fail
    rcases (Decidable.em (E.c.keyAt (j18) = [41])).symm with h22 | h22
    · refine (need_no E (j18) _ hs20.rd [41] h22).mono ?_
      rintro e w23 ⟨rfl, hm25⟩
      rw [hI.nno h22]
      exact ⟨rfl, hs20.bad hm25 _⟩
    refine (need_yes E (j18) _ hs20.rd [41] h22 (by decide)).mono ?_
    rintro e w23 ⟨rfl, hr24, hm25⟩
    have hs26 := hs20.goes hr24 hm25
    replace hI := hI.nyes h22
    go_wp2_with fail
    go_returns
    rw [hI.eq]
    exact hs26.done

end Go.Proofs.YthmdgbmodgfcmaaGreatDoor
/-
  What the reader's inParens does.
-/
namespace Go.Proofs.YthmdgbmodgfcmaaGreatDoor
open Go.RowKit

set_option maxHeartbeats 4000000 in
theorem inParensAst_does (E : Env) (f : Nat) (hf : f + 1 ≤ 1000000) (ih : Sp E f) : RowRds E (f + 1) 137 23 .ast [] (.inParens .expr .ast) := by
  intro i hne w F b t N o hr ha hb hF
  have hs0 : St E w F b t N o 1 w F i [.row .ast []] := St.start hr ha hb hF
  obtain ⟨R, hI, hR⟩ := Is.start (run E.c (f + 1) (.inParens .expr .ast) i)
  show Calls _ _ _ _ (Post E F b t N o 1 w _)
  rw [hR] at hne ⊢
  clear hR hr ha hF
  rw [run_inParens] at hI
  have hl := strOfL_toList
  have hbr : ¬ b = E.rb := fun e => hb (.inl e)
  have hbr' : ¬ E.rb = b := fun e => hb (.inl e.symm)
  have hmf : ∀ (fn : Fn) (first cap : Array Value) (w : World), (Instr.makeFunc fn first cap).run Tryz.prog w = .ok (.func fn first cap) w := fun _ _ _ _ => rfl
  go_enter Tryz.func137, Tryz.ntmps137
  go_wp2_with fail
  rcases (Decidable.em (E.c.keyAt (i) = [40])).symm with h1 | h1
  · refine (need_no E (i) _ hs0.rd [40] h1).mono ?_
    rintro e w2 ⟨rfl, hm4⟩
    rw [hI.nno h1]
    exact ⟨rfl, hs0.bad hm4 _⟩
  refine (need_yes E (i) _ hs0.rd [40] h1 (by decide)).mono ?_
  rintro e w2 ⟨rfl, hr3, hm4⟩
  have hs5 := hs0.goes hr3 hm4
  replace hI := hI.nyes h1
  go_wp2_with fail
  refine (is_any E (i + 1) _ hs5.rd [41]).mono ?_
  rintro e w7 ⟨rfl, hm8⟩
  have hs9 := hs5.same hm8
  rcases Decidable.em (E.c.keyAt (i + 1) = [41]) with h6 | h6
  · rw [decide_eq_true h6]
    replace hI := hI.pos h6
    go_wp2_with fail
    rcases (Decidable.em (E.c.keyAt (i + 1) = [41])).symm with h10 | h10
    · refine (need_no E (i + 1) _ hs9.rd [41] h10).mono ?_
      rintro e w11 ⟨rfl, hm13⟩
      rw [hI.nno h10]
      exact ⟨rfl, hs9.bad hm13 _⟩
    refine (need_yes E (i + 1) _ hs9.rd [41] h10 (by decide)).mono ?_
    rintro e w11 ⟨rfl, hr12, hm13⟩
    have hs14 := hs9.goes hr12 hm13
    replace hI := hI.nyes h10
    go_wp2_with fail
    go_returns
    rw [hI.eq]
    exact hs14.done
  · rw [decide_eq_false h6]
    replace hI := hI.neg h6
    go_wp2_with fail
    refine (ih.rowAst [] (by simp; omega) (i + 1) (hI.fuel hne) _ _ _ _ _ _ hs9.rd hs9.cur hs9.nb hs9.nF).mono ?_
    intro e w15 hp16
    rcases hrun17 : run E.c f (.row .expr .ast []) (i + 1) with m | ⟨d21, j18⟩
    · rw [hrun17] at hp16
      obtain rfl := hp16.1
      rw [hI.err hrun17]
      exact ⟨rfl, hs9.wholeBad hp16⟩
    rw [hrun17] at hp16
    obtain rfl := hp16.1
    obtain ⟨F19, hs20⟩ := hs9.whole hp16
    replace hI := hI.ok hrun17
    clear hrun17
    go_wp2_with fail
    rcases (Decidable.em (E.c.keyAt (j18) = [41])).symm with h22 | h22
    · refine (need_no E (j18) _ hs20.rd [41] h22).mono ?_
      rintro e w23 ⟨rfl, hm25⟩
      rw [hI.nno h22]
      exact ⟨rfl, hs20.bad hm25 _⟩
    refine (need_yes E (j18) _ hs20.rd [41] h22 (by decide)).mono ?_
    rintro e w23 ⟨rfl, hr24, hm25⟩
    have hs26 := hs20.goes hr24 hm25
    replace hI := hI.nyes h22
    go_wp2_with fail
    go_returns
    rw [hI.eq]
    exact hs26.done

end Go.Proofs.YthmdgbmodgfcmaaGreatDoor
/-
  What the reader's inBraces does.
-/
namespace Go.Proofs.YthmdgbmodgfcmaaGreatDoor
open Go.RowKit

set_option maxHeartbeats 4000000 in
theorem inBracesString_does (E : Env) (f : Nat) (hf : f + 1 ≤ 1000000) (ih : Sp E f) : RowRds E (f + 1) 85 78 .str [] (.inBraces .name .str) := by
  intro i hne w F b t N o hr ha hb hF
  have hs0 : St E w F b t N o 1 w F i [.row .str []] := St.start hr ha hb hF
  obtain ⟨R, hI, hR⟩ := Is.start (run E.c (f + 1) (.inBraces .name .str) i)
  show Calls _ _ _ _ (Post E F b t N o 1 w _)
  rw [hR] at hne ⊢
  clear hR hr ha hF
  rw [run_inBraces] at hI
  have hl := strOfL_toList
  have hbr : ¬ b = E.rb := fun e => hb (.inl e)
  have hbr' : ¬ E.rb = b := fun e => hb (.inl e.symm)
  have hmf : ∀ (fn : Fn) (first cap : Array Value) (w : World), (Instr.makeFunc fn first cap).run Tryz.prog w = .ok (.func fn first cap) w := fun _ _ _ _ => rfl
  go_enter Tryz.func85, Tryz.ntmps85
  go_wp2_with fail
  rcases (Decidable.em (E.c.keyAt (i) = [123])).symm with h1 | h1
  · refine (need_no E (i) _ hs0.rd [123] h1).mono ?_
    rintro e w2 ⟨rfl, hm4⟩
    rw [hI.nno h1]
    exact ⟨rfl, hs0.bad hm4 _⟩
  refine (need_yes E (i) _ hs0.rd [123] h1 (by decide)).mono ?_
  rintro e w2 ⟨rfl, hr3, hm4⟩
  have hs5 := hs0.goes hr3 hm4
  replace hI := hI.nyes h1
  go_wp2_with fail
  refine (ih.rowStr [] (by simp; omega) (i + 1) (hI.fuel hne) _ _ _ _ _ _ hs5.rd hs5.cur hs5.nb hs5.nF).mono ?_
  intro e w6 hp7
  rcases hrun8 : run E.c f (.row .name .str []) (i + 1) with m | ⟨d12, j9⟩
  · rw [hrun8] at hp7
    obtain rfl := hp7.1
    rw [hI.err hrun8]
    exact ⟨rfl, hs5.wholeBad hp7⟩
  rw [hrun8] at hp7
  obtain rfl := hp7.1
  obtain ⟨F10, hs11⟩ := hs5.whole hp7
  replace hI := hI.ok hrun8
  clear hrun8
  go_wp2_with fail
  rcases (Decidable.em (E.c.keyAt (j9) = [125])).symm with h13 | h13
  · refine (need_no E (j9) _ hs11.rd [125] h13).mono ?_
    rintro e w14 ⟨rfl, hm16⟩
    rw [hI.nno h13]
    exact ⟨rfl, hs11.bad hm16 _⟩
  refine (need_yes E (j9) _ hs11.rd [125] h13 (by decide)).mono ?_
  rintro e w14 ⟨rfl, hr15, hm16⟩
  have hs17 := hs11.goes hr15 hm16
  replace hI := hI.nyes h13
  go_wp2_with fail
  go_returns
  rw [hI.eq]
  exact hs17.done

end Go.Proofs.YthmdgbmodgfcmaaGreatDoor
/-
  What the reader's inBraces does.
-/
namespace Go.Proofs.YthmdgbmodgfcmaaGreatDoor
open Go.RowKit

set_option maxHeartbeats 4000000 in
theorem inBracesInt_does (E : Env) (f : Nat) (hf : f + 1 ≤ 1000000) (ih : Sp E f) : RowRds E (f + 1) 143 112 .int [] (.inBraces .plainType .int) := by
  intro i hne w F b t N o hr ha hb hF
  have hs0 : St E w F b t N o 1 w F i [.row .int []] := St.start hr ha hb hF
  obtain ⟨R, hI, hR⟩ := Is.start (run E.c (f + 1) (.inBraces .plainType .int) i)
  show Calls _ _ _ _ (Post E F b t N o 1 w _)
  rw [hR] at hne ⊢
  clear hR hr ha hF
  rw [run_inBraces] at hI
  have hl := strOfL_toList
  have hbr : ¬ b = E.rb := fun e => hb (.inl e)
  have hbr' : ¬ E.rb = b := fun e => hb (.inl e.symm)
  have hmf : ∀ (fn : Fn) (first cap : Array Value) (w : World), (Instr.makeFunc fn first cap).run Tryz.prog w = .ok (.func fn first cap) w := fun _ _ _ _ => rfl
  go_enter Tryz.func143, Tryz.ntmps143
  go_wp2_with fail
  rcases (Decidable.em (E.c.keyAt (i) = [123])).symm with h1 | h1
  · refine (need_no E (i) _ hs0.rd [123] h1).mono ?_
    rintro e w2 ⟨rfl, hm4⟩
    rw [hI.nno h1]
    exact ⟨rfl, hs0.bad hm4 _⟩
  refine (need_yes E (i) _ hs0.rd [123] h1 (by decide)).mono ?_
  rintro e w2 ⟨rfl, hr3, hm4⟩
  have hs5 := hs0.goes hr3 hm4
  replace hI := hI.nyes h1
  go_wp2_with fail
  refine (ih.rowInt [] (by simp; omega) (i + 1) (hI.fuel hne) _ _ _ _ _ _ hs5.rd hs5.cur hs5.nb hs5.nF).mono ?_
  intro e w6 hp7
  rcases hrun8 : run E.c f (.row .plainType .int []) (i + 1) with m | ⟨d12, j9⟩
  · rw [hrun8] at hp7
    obtain rfl := hp7.1
    rw [hI.err hrun8]
    exact ⟨rfl, hs5.wholeBad hp7⟩
  rw [hrun8] at hp7
  obtain rfl := hp7.1
  obtain ⟨F10, hs11⟩ := hs5.whole hp7
  replace hI := hI.ok hrun8
  clear hrun8
  go_wp2_with fail
  rcases (Decidable.em (E.c.keyAt (j9) = [125])).symm with h13 | h13
  · refine (need_no E (j9) _ hs11.rd [125] h13).mono ?_
    rintro e w14 ⟨rfl, hm16⟩
    rw [hI.nno h13]
    exact ⟨rfl, hs11.bad hm16 _⟩
  refine (need_yes E (j9) _ hs11.rd [125] h13 (by decide)).mono ?_
  rintro e w14 ⟨rfl, hr15, hm16⟩
  have hs17 := hs11.goes hr15 hm16
  replace hI := hI.nyes h13
  go_wp2_with fail
  go_returns
  rw [hI.eq]
  exact hs17.done

end Go.Proofs.YthmdgbmodgfcmaaGreatDoor
/-
  What the reader's plainType does.
-/
namespace Go.Proofs.YthmdgbmodgfcmaaGreatDoor
open Go.RowKit

set_option maxHeartbeats 4000000 in
theorem plainType_does (E : Env) (f : Nat) : Rds E (f + 1) 112 [.num 0] .plainType := by
  intro i hne w F b t N o hr ha hb hF
  have hs0 : St E w F b t N o 1 w F i [.num 0] := St.start hr ha hb hF
  obtain ⟨R, hI, hR⟩ := Is.start (run E.c (f + 1) .plainType i)
  show Calls _ _ _ _ (Post E F b t N o 1 w _)
  rw [hR] at hne ⊢
  clear hR hr ha hF
  rw [run_plainType] at hI
  have hl := strOfL_toList
  have hbr : ¬ b = E.rb := fun e => hb (.inl e)
  have hbr' : ¬ E.rb = b := fun e => hb (.inl e.symm)
  have hmf : ∀ (fn : Fn) (first cap : Array Value) (w : World), (Instr.makeFunc fn first cap).run Tryz.prog w = .ok (.func fn first cap) w := fun _ _ _ _ => rfl
  go_enter Tryz.func112, Tryz.ntmps112
  go_wp2_with fail
  refine (isType_any E (i) _ hs0.rd).mono ?_
  rintro e w1 ⟨rfl, hm2⟩
  have hs3 := hs0.same hm2
  cases hty4 : isType E.c (i) with
  | true =>
    replace hI := hI.pos hty4
    go_wp2_with fail
    refine (anyKey_yes E (i) _ hs3.rd (Cx.kind_of_type hty4)).mono ?_
    rintro e w5 ⟨rfl, hr6, hm7⟩
    have hs8 := hs3.goes hr6 hm7
    go_wp2_with fail
    refine (typeOf_any _ _ hs8.rd.tn).mono ?_
    rintro e w9 ⟨rfl, hm10⟩
    have hs11 := hs8.same hm10
    obtain ⟨v12, c13, _⟩ := hs11.cur.cell 0 _ rfl
    simp only [Nat.add_zero] at c13
    have fz14 := hs11.cur.free (o)
    go_wp2_with fail
    have hs15 := hs11.set0 (by decide) (.int .i64 (typeOf (E.c.keyAt i) : Nat)) (.num (typeOf (E.c.keyAt i) : Nat)) (fun _ => .num _ _)
    go_returns
    rw [hI.eq]
    exact hs15.done
  | false =>
    replace hI := hI.neg (by simp [hty4])
    go_wp2_with fail
    refine (refuse_any E (i) _ hs3.rd).mono ?_
    rintro e w16 ⟨rfl, hm17⟩
    rw [hI.eq]
    exact ⟨rfl, hs3.bad hm17 _⟩

end Go.Proofs.YthmdgbmodgfcmaaGreatDoor
/-
  What the reader's decl does.
-/
namespace Go.Proofs.YthmdgbmodgfcmaaGreatDoor
open Go.RowKit

set_option maxHeartbeats 4000000 in
theorem decl_does (E : Env) (f : Nat) (hf : f + 1 ≤ 1000000) (ih : Sp E f) : Rds E (f + 1) 84 zDecl .decl := by
  intro i hne w F b t N o hr ha hb hF
  have hs0 : St E w F b t N o 4 w F i zDecl := St.start hr ha hb hF
  obtain ⟨R, hI, hR⟩ := Is.start (run E.c (f + 1) .decl i)
  show Calls _ _ _ _ (Post E F b t N o 4 w _)
  rw [hR] at hne ⊢
  clear hR hr ha hF
  rw [run_decl] at hI
  have hl := strOfL_toList
  have hbr : ¬ b = E.rb := fun e => hb (.inl e)
  have hbr' : ¬ E.rb = b := fun e => hb (.inl e.symm)
  have hmf : ∀ (fn : Fn) (first cap : Array Value) (w : World), (Instr.makeFunc fn first cap).run Tryz.prog w = .ok (.func fn first cap) w := fun _ _ _ _ => rfl
  go_enter Tryz.func84, Tryz.ntmps84
  go_wp2_with fail
  refine (place_any E (i) _ hs0.rd).mono ?_
  rintro e w1 ⟨rfl, hm2⟩
  have hs3 := hs0.same hm2
  obtain ⟨v4, c5, _⟩ := hs3.cur.cell 3 _ rfl
  have fz6 := hs3.cur.free (o + 3)
  go_wp2_with fail
  have hs7 := hs3.set 3 (by decide) (.int .i64 (E.c.place (i) : Nat)) (.num (E.c.place (i) : Nat)) (fun _ => .num _ _)
  refine (kind_any E (i) _ hs7.rd 0 (i) (by omega) (by omega)).mono ?_
  rintro e w8 ⟨rfl, hm9⟩
  have hs10 := hs7.same hm9
  rcases Decidable.em (E.c.kindAt (i) = 1) with h11 | h11
  · have hbh11 : ((E.c.kindAt (i) : Int) == 1) = true := by rw [h11]; rfl
    replace hI := hI.pos h11
    obtain ⟨v12, c13, _⟩ := hs10.cur.cell 0 _ rfl
    simp only [Nat.add_zero] at c13
    have fz14 := hs10.cur.free (o)
    go_wp2_with fail
    have hs15 := hs10.set0 (by decide) (.int .i64 (-1)) (.num (-1)) (fun _ => .num _ _)
    obtain ⟨Fi20, hat21, hown22, hok23, _⟩ := hs15.call 1 1 (by decide)
    refine (name_yes E (i) [] h11 _ Fi20 _ _ _ (o + 1) hs15.rd hat21 hs15.nb hown22).mono ?_
    intro e w16 hp17
    obtain rfl := hp17.1
    obtain ⟨F18, hs19⟩ := hok23 _ _ _ _ hp17
    go_wp2_with fail
    obtain ⟨Fi31, hat32, hown33, hok34, hbad35⟩ := hs19.call 2 1 (by decide)
    refine (ih.rowVar [] (by simp; omega) (i + 1) (hI.fuel hne) _ Fi31 _ _ _ (o + 2) hs19.rd hat32 hs19.nb hown33).mono ?_
    intro e w24 hp25
    rcases hrun26 : run E.c f (.row .variable .var []) (i + 1) with m | ⟨d30, j27⟩
    · rw [hrun26] at hp25
      obtain rfl := hp25.1
      rw [hI.err hrun26]
      exact ⟨rfl, hbad35 _ _ _ hp25⟩
    rw [hrun26] at hp25
    obtain rfl := hp25.1
    obtain ⟨d30x0, rfl⟩ := len1 hp25.2.2.1
    obtain ⟨F28, hs29⟩ := hok34 _ _ _ _ hp25
    replace hI := hI.ok hrun26
    clear hrun26
    go_wp2_with fail
    go_returns
    rw [hI.eq]
    exact hs29.done
  have hbh11 : ((E.c.kindAt (i) : Int) == 1) = false := by rw [beq_eq_false_iff_ne]; omega
  replace hI := hI.neg h11
  go_wp2_with fail
  obtain ⟨Fi43, hat44, hown45, hok46, hbad47⟩ := hs10.call 0 1 (by decide)
  simp only [Nat.add_zero] at hat44 hok46 hbad47
  refine (ih.plainType (i) (hI.fuel hne) _ Fi43 _ _ _ o hs10.rd hat44 hs10.nb hown45).mono ?_
  intro e w36 hp37
  rcases hrun38 : run E.c f .plainType (i) with m | ⟨d42, j39⟩
  · rw [hrun38] at hp37
    obtain rfl := hp37.1
    rw [hI.err hrun38]
    exact ⟨rfl, hbad47 _ _ _ hp37⟩
  rw [hrun38] at hp37
  obtain rfl := hp37.1
  obtain ⟨d42x0, rfl⟩ := len1 hp37.2.2.1
  obtain ⟨F40, hs41⟩ := hok46 _ _ _ _ hp37
  replace hI := hI.ok hrun38
  clear hrun38
  go_wp2_with fail
  obtain ⟨Fi55, hat56, hown57, hok58, hbad59⟩ := hs41.call 2 1 (by decide)
  refine (ih.rowVar [] (by simp; omega) (j39) (hI.fuel hne) _ Fi55 _ _ _ (o + 2) hs41.rd hat56 hs41.nb hown57).mono ?_
  intro e w48 hp49
  rcases hrun50 : run E.c f (.row .variable .var []) (j39) with m | ⟨d54, j51⟩
  · rw [hrun50] at hp49
    obtain rfl := hp49.1
    rw [hI.err hrun50]
    exact ⟨rfl, hbad59 _ _ _ hp49⟩
  rw [hrun50] at hp49
  obtain rfl := hp49.1
  obtain ⟨d54x0, rfl⟩ := len1 hp49.2.2.1
  obtain ⟨F52, hs53⟩ := hok58 _ _ _ _ hp49
  replace hI := hI.ok hrun50
  clear hrun50
  go_wp2_with fail
  go_returns
  rw [hI.eq]
  exact hs53.done

end Go.Proofs.YthmdgbmodgfcmaaGreatDoor
/-
  What the reader's variable does.
-/
namespace Go.Proofs.YthmdgbmodgfcmaaGreatDoor
open Go.RowKit

set_option maxHeartbeats 4000000 in
theorem variable_does (E : Env) (f : Nat) (ih : Sp E f) : Rds E (f + 1) 114 zVar .variable := by
  intro i hne w F b t N o hr ha hb hF
  have hs0 : St E w F b t N o 23 w F i zVar := St.start hr ha hb hF
  obtain ⟨R, hI, hR⟩ := Is.start (run E.c (f + 1) .variable i)
  show Calls _ _ _ _ (Post E F b t N o 23 w _)
  rw [hR] at hne ⊢
  clear hR hr ha hF
  rw [run_variable] at hI
  have hl := strOfL_toList
  have hbr : ¬ b = E.rb := fun e => hb (.inl e)
  have hbr' : ¬ E.rb = b := fun e => hb (.inl e.symm)
  have hmf : ∀ (fn : Fn) (first cap : Array Value) (w : World), (Instr.makeFunc fn first cap).run Tryz.prog w = .ok (.func fn first cap) w := fun _ _ _ _ => rfl
  go_enter Tryz.func114, Tryz.ntmps114
  go_wp2_with fail
  obtain ⟨Fi8, hat9, hown10, hok11, hbad12⟩ := hs0.call 0 1 (by decide)
  simp only [Nat.add_zero] at hat9 hok11 hbad12
  refine (ih.name [] (i) (hI.fuel hne) _ Fi8 _ _ _ o hs0.rd hat9 hs0.nb hown10).mono ?_
  intro e w1 hp2
  rcases hrun3 : run E.c f .name (i) with m | ⟨d7, j4⟩
  · rw [hrun3] at hp2
    obtain rfl := hp2.1
    rw [hI.err hrun3]
    exact ⟨rfl, hbad12 _ _ _ hp2⟩
  rw [hrun3] at hp2
  obtain rfl := hp2.1
  obtain ⟨d7x0, rfl⟩ := len1 hp2.2.2.1
  obtain ⟨F5, hs6⟩ := hok11 _ _ _ _ hp2
  replace hI := hI.ok hrun3
  clear hrun3
  go_wp2_with fail
  refine (is_any E (j4) _ hs6.rd [91]).mono ?_
  rintro e w14 ⟨rfl, hm15⟩
  have hs16 := hs6.same hm15
  rcases Decidable.em (E.c.keyAt (j4) = [91]) with h13 | h13
  · rw [decide_eq_true h13]
    replace hI := hI.pos h13
    obtain ⟨v17, c18, _⟩ := hs16.cur.cell 1 _ rfl
    have fz19 := hs16.cur.free (o + 1)
    go_wp2_with fail
    have hs20 := hs16.set 1 (by decide) (.bool true) (.bit true) (fun _ => .bit _ _)
    obtain ⟨Fi28, hat29, hown30, hok31, hbad32⟩ := hs20.call 2 9 (by decide)
    refine (ih.index (j4) (hI.fuel hne) _ Fi28 _ _ _ (o + 2) hs20.rd hat29 hs20.nb hown30).mono ?_
    intro e w21 hp22
    rcases hrun23 : run E.c f .index (j4) with m | ⟨d27, j24⟩
    · rw [hrun23] at hp22
      obtain rfl := hp22.1
      rw [hI.err hrun23]
      exact ⟨rfl, hbad32 _ _ _ hp22⟩
    rw [hrun23] at hp22
    obtain rfl := hp22.1
    obtain ⟨d27x0, d27x1, d27x2, d27x3, d27x4, d27x5, d27x6, d27x7, d27x8, rfl⟩ := len9 hp22.2.2.1
    obtain ⟨F25, hs26⟩ := hok31 _ _ _ _ hp22
    replace hI := hI.ok hrun23
    clear hrun23
    go_wp2_with fail
    rcases Decidable.em (E.c.keyAt (j24) = [61]) with h33 | h33
    · refine (take_yes E (j24) _ hs26.rd [61] h33 (by decide)).mono ?_
      rintro e w34 ⟨rfl, hr35, hm36⟩
      have hs37 := hs26.goes hr35 hm36
      replace hI := hI.pos h33
      go_wp2_with fail
      refine (ih.beginning (splice zVar 0 ([d7x0] ++ [.bit true] ++ [d27x0, d27x1, d27x2, d27x3, d27x4, d27x5, d27x6, d27x7, d27x8])) rfl rfl (j24 + 1) (hI.fuel1 hne) _ _ _ _ _ _ hs37.rd hs37.cur hs37.nb hs37.nF).mono ?_
      intro e w38 hp39
      rcases hrun40 : run E.c f (.beginning (splice zVar 0 ([d7x0] ++ [.bit true] ++ [d27x0, d27x1, d27x2, d27x3, d27x4, d27x5, d27x6, d27x7, d27x8]))) (j24 + 1) with m | ⟨d44, j41⟩
      · rw [hrun40] at hp39
        obtain rfl := hp39.1
        rw [hI.eq, hrun40]
        exact ⟨rfl, hs37.wholeBad hp39⟩
      rw [hrun40] at hp39
      obtain rfl := hp39.1
      obtain ⟨F42, hs43⟩ := hs37.whole hp39
      replace hI : Is (.ok (d44, j41)) R := by rw [hrun40] at hI; exact hI
      clear hrun40
      go_wp2_with fail
      go_returns
      rw [hI.eq]
      exact hs43.done
    · refine (take_no E (j24) _ hs26.rd [61] h33).mono ?_
      rintro e w34 ⟨rfl, hm36⟩
      have hs37 := hs26.same hm36
      replace hI := hI.neg h33
      go_wp2_with fail
      go_returns
      rw [hI.eq]
      exact hs37.done
  · rw [decide_eq_false h13]
    replace hI := hI.neg h13
    go_wp2_with fail
    rcases Decidable.em (E.c.keyAt (j4) = [61]) with h45 | h45
    · refine (take_yes E (j4) _ hs16.rd [61] h45 (by decide)).mono ?_
      rintro e w46 ⟨rfl, hr47, hm48⟩
      have hs49 := hs16.goes hr47 hm48
      replace hI := hI.pos h45
      go_wp2_with fail
      refine (ih.beginning (splice zVar 0 [d7x0]) rfl rfl (j4 + 1) (hI.fuel1 hne) _ _ _ _ _ _ hs49.rd hs49.cur hs49.nb hs49.nF).mono ?_
      intro e w50 hp51
      rcases hrun52 : run E.c f (.beginning (splice zVar 0 [d7x0])) (j4 + 1) with m | ⟨d56, j53⟩
      · rw [hrun52] at hp51
        obtain rfl := hp51.1
        rw [hI.eq, hrun52]
        exact ⟨rfl, hs49.wholeBad hp51⟩
      rw [hrun52] at hp51
      obtain rfl := hp51.1
      obtain ⟨F54, hs55⟩ := hs49.whole hp51
      replace hI : Is (.ok (d56, j53)) R := by rw [hrun52] at hI; exact hI
      clear hrun52
      go_wp2_with fail
      go_returns
      rw [hI.eq]
      exact hs55.done
    · refine (take_no E (j4) _ hs16.rd [61] h45).mono ?_
      rintro e w46 ⟨rfl, hm48⟩
      have hs49 := hs16.same hm48
      replace hI := hI.neg h45
      go_wp2_with fail
      go_returns
      rw [hI.eq]
      exact hs49.done

end Go.Proofs.YthmdgbmodgfcmaaGreatDoor
/-
  What the reader's beginning does.
-/
namespace Go.Proofs.YthmdgbmodgfcmaaGreatDoor
open Go.RowKit

set_option maxHeartbeats 4000000 in
theorem beginning_does (E : Env) (f : Nat) (ih : Sp E f) : ∀ v : List D, v.length = 23 → v.drop 11 = zVar.drop 11 → Rds E (f + 1) 131 v (.beginning v) := by
  intro v hv hd i hne w F b t N o hr ha hb hF
  have hs0 := St.start hr ha hb hF
  rw [hv] at hs0 ⊢
  obtain ⟨R, hI, hR⟩ := Is.start (run E.c (f + 1) (.beginning v) i)
  rw [hR] at hne ⊢
  clear hR hr ha hF
  rw [run_beginning] at hI
  have hl := strOfL_toList
  have hbr : ¬ b = E.rb := fun e => hb (.inl e)
  have hbr' : ¬ E.rb = b := fun e => hb (.inl e.symm)
  have hmf : ∀ (fn : Fn) (first cap : Array Value) (w : World), (Instr.makeFunc fn first cap).run Tryz.prog w = .ok (.func fn first cap) w := fun _ _ _ _ => rfl
  obtain ⟨x0, x1, x2, x3, x4, x5, x6, x7, x8, x9, x10, rfl⟩ := len23 hv hd
  go_enter Tryz.func131, Tryz.ntmps131
  go_wp2_with fail
  refine (is_any E (i) _ hs0.rd [91]).mono ?_
  rintro e w2 ⟨rfl, hm3⟩
  have hs4 := hs0.same hm3
  rcases Decidable.em (E.c.keyAt (i) = [91]) with h1 | h1
  · rw [decide_eq_true h1]
    replace hI := hI.pos h1
    obtain ⟨v5, c6, _⟩ := hs4.cur.cell 21 _ rfl
    have fz7 := hs4.cur.free (o + 21)
    go_wp2_with fail
    have hs8 := hs4.set 21 (by decide) (.bool true) (.bit true) (fun _ => .bit _ _)
    obtain ⟨Fi16, hat17, hown18, hok19, hbad20⟩ := hs8.call 12 9 (by decide)
    refine (ih.index (i) (hI.fuel hne) _ Fi16 _ _ _ (o + 12) hs8.rd hat17 hs8.nb hown18).mono ?_
    intro e w9 hp10
    rcases hrun11 : run E.c f .index (i) with m | ⟨d15, j12⟩
    · rw [hrun11] at hp10
      obtain rfl := hp10.1
      rw [hI.err hrun11]
      exact ⟨rfl, hbad20 _ _ _ hp10⟩
    rw [hrun11] at hp10
    obtain rfl := hp10.1
    obtain ⟨d15x0, d15x1, d15x2, d15x3, d15x4, d15x5, d15x6, d15x7, d15x8, rfl⟩ := len9 hp10.2.2.1
    obtain ⟨F13, hs14⟩ := hok19 _ _ _ _ hp10
    replace hI := hI.ok hrun11
    clear hrun11
    go_wp2_with fail
    rcases (Decidable.em (E.c.keyAt (j12) = [111, 102])).symm with h21 | h21
    · refine (need_no E (j12) _ hs14.rd [111, 102] h21).mono ?_
      rintro e w22 ⟨rfl, hm24⟩
      rw [hI.nno h21]
      exact ⟨rfl, hs14.bad hm24 _⟩
    refine (need_yes E (j12) _ hs14.rd [111, 102] h21 (by decide)).mono ?_
    rintro e w22 ⟨rfl, hr23, hm24⟩
    have hs25 := hs14.goes hr23 hm24
    replace hI := hI.nyes h21
    go_wp2_with fail
    obtain ⟨Fi33, hat34, hown35, hok36, hbad37⟩ := hs25.call 22 1 (by decide)
    refine (ih.inBrInt (j12 + 1) (hI.fuel hne) _ Fi33 _ _ _ (o + 22) hs25.rd hat34 hs25.nb hown35).mono ?_
    intro e w26 hp27
    rcases hrun28 : run E.c f (.inBraces .plainType .int) (j12 + 1) with m | ⟨d32, j29⟩
    · rw [hrun28] at hp27
      obtain rfl := hp27.1
      rw [hI.err hrun28]
      exact ⟨rfl, hbad37 _ _ _ hp27⟩
    rw [hrun28] at hp27
    obtain rfl := hp27.1
    obtain ⟨d32x0, rfl⟩ := len1 hp27.2.2.1
    obtain ⟨F30, hs31⟩ := hok36 _ _ _ _ hp27
    replace hI := hI.ok hrun28
    clear hrun28
    go_wp2_with fail
    go_returns
    rw [hI.eq]
    exact hs31.done
  · rw [decide_eq_false h1]
    replace hI := hI.neg h1
    obtain ⟨v38, c39, _⟩ := hs4.cur.cell 11 _ rfl
    have fz40 := hs4.cur.free (o + 11)
    go_wp2_with fail
    have hs41 := hs4.set 11 (by decide) (.bool true) (.bit true) (fun _ => .bit _ _)
    obtain ⟨Fi49, hat50, hown51, hok52, hbad53⟩ := hs41.call 12 9 (by decide)
    refine (ih.expr (i) (hI.fuel hne) _ Fi49 _ _ _ (o + 12) hs41.rd hat50 hs41.nb hown51).mono ?_
    intro e w42 hp43
    rcases hrun44 : run E.c f .expr (i) with m | ⟨d48, j45⟩
    · rw [hrun44] at hp43
      obtain rfl := hp43.1
      rw [hI.err hrun44]
      exact ⟨rfl, hbad53 _ _ _ hp43⟩
    rw [hrun44] at hp43
    obtain rfl := hp43.1
    obtain ⟨d48x0, d48x1, d48x2, d48x3, d48x4, d48x5, d48x6, d48x7, d48x8, rfl⟩ := len9 hp43.2.2.1
    obtain ⟨F46, hs47⟩ := hok52 _ _ _ _ hp43
    replace hI := hI.ok hrun44
    clear hrun44
    go_wp2_with fail
    go_returns
    rw [hI.eq]
    exact hs47.done

end Go.Proofs.YthmdgbmodgfcmaaGreatDoor
/-
  What the reader's body does.
-/
namespace Go.Proofs.YthmdgbmodgfcmaaGreatDoor
open Go.RowKit

set_option maxHeartbeats 4000000 in
theorem body_does (E : Env) (f : Nat) (ih : Sp E f) : Rds E (f + 1) 57 [.row .stmt []] .body := by
  intro i hne w F b t N o hr ha hb hF
  have hs0 : St E w F b t N o 1 w F i [.row .stmt []] := St.start hr ha hb hF
  obtain ⟨R, hI, hR⟩ := Is.start (run E.c (f + 1) .body i)
  show Calls _ _ _ _ (Post E F b t N o 1 w _)
  rw [hR] at hne ⊢
  clear hR hr ha hF
  rw [run_body] at hI
  have hl := strOfL_toList
  have hbr : ¬ b = E.rb := fun e => hb (.inl e)
  have hbr' : ¬ E.rb = b := fun e => hb (.inl e.symm)
  have hmf : ∀ (fn : Fn) (first cap : Array Value) (w : World), (Instr.makeFunc fn first cap).run Tryz.prog w = .ok (.func fn first cap) w := fun _ _ _ _ => rfl
  go_enter Tryz.func57, Tryz.ntmps57
  go_wp2_with fail
  rcases (Decidable.em (E.c.keyAt (i) = [123])).symm with h1 | h1
  · refine (need_no E (i) _ hs0.rd [123] h1).mono ?_
    rintro e w2 ⟨rfl, hm4⟩
    rw [hI.nno h1]
    exact ⟨rfl, hs0.bad hm4 _⟩
  refine (need_yes E (i) _ hs0.rd [123] h1 (by decide)).mono ?_
  rintro e w2 ⟨rfl, hr3, hm4⟩
  have hs5 := hs0.goes hr3 hm4
  replace hI := hI.nyes h1
  go_wp2_with fail
  refine (ih.steps (i + 1) (hI.fuel hne) _ _ _ _ _ _ hs5.rd hs5.cur hs5.nb hs5.nF).mono ?_
  intro e w6 hp7
  rcases hrun8 : run E.c f .steps (i + 1) with m | ⟨d12, j9⟩
  · rw [hrun8] at hp7
    obtain rfl := hp7.1
    rw [hI.err hrun8]
    exact ⟨rfl, hs5.wholeBad hp7⟩
  rw [hrun8] at hp7
  obtain rfl := hp7.1
  obtain ⟨F10, hs11⟩ := hs5.whole hp7
  replace hI := hI.ok hrun8
  clear hrun8
  go_wp2_with fail
  rcases (Decidable.em (E.c.keyAt (j9) = [125])).symm with h13 | h13
  · refine (need_no E (j9) _ hs11.rd [125] h13).mono ?_
    rintro e w14 ⟨rfl, hm16⟩
    rw [hI.nno h13]
    exact ⟨rfl, hs11.bad hm16 _⟩
  refine (need_yes E (j9) _ hs11.rd [125] h13 (by decide)).mono ?_
  rintro e w14 ⟨rfl, hr15, hm16⟩
  have hs17 := hs11.goes hr15 hm16
  replace hI := hI.nyes h13
  go_wp2_with fail
  go_returns
  rw [hI.eq]
  exact hs17.done

end Go.Proofs.YthmdgbmodgfcmaaGreatDoor
/-
  What the reader's stmt does.
-/
namespace Go.Proofs.YthmdgbmodgfcmaaGreatDoor
open Go.RowKit

set_option maxHeartbeats 4000000 in
theorem stmt_does (E : Env) (f : Nat) (ih : Sp E f) : Rds E (f + 1) 125 zStmt .stmt := by
  intro i hne w F b t N o hr ha hb hF
  have hs0 : St E w F b t N o 28 w F i zStmt := St.start hr ha hb hF
  obtain ⟨R, hI, hR⟩ := Is.start (run E.c (f + 1) .stmt i)
  show Calls _ _ _ _ (Post E F b t N o 28 w _)
  rw [hR] at hne ⊢
  clear hR hr ha hF
  rw [run_stmt] at hI
  have hl := strOfL_toList
  have hbr : ¬ b = E.rb := fun e => hb (.inl e)
  have hbr' : ¬ E.rb = b := fun e => hb (.inl e.symm)
  have hmf : ∀ (fn : Fn) (first cap : Array Value) (w : World), (Instr.makeFunc fn first cap).run Tryz.prog w = .ok (.func fn first cap) w := fun _ _ _ _ => rfl
  go_enter Tryz.func125, Tryz.ntmps125
  go_wp2_with fail
  refine (place_any E (i) _ hs0.rd).mono ?_
  rintro e w1 ⟨rfl, hm2⟩
  have hs3 := hs0.same hm2
  obtain ⟨v4, c5, _⟩ := hs3.cur.cell 1 _ rfl
  have fz6 := hs3.cur.free (o + 1)
  go_wp2_with fail
  have hs7 := hs3.set 1 (by decide) (.int .i64 (E.c.place (i) : Nat)) (.num (E.c.place (i) : Nat)) (fun _ => .num _ _)
  refine (kind_any E (i) _ hs7.rd 0 (i) (by omega) (by omega)).mono ?_
  rintro e w8 ⟨rfl, hm9⟩
  have hs10 := hs7.same hm9
  rcases Decidable.em (E.c.kindAt (i) = 1) with h11 | h11
  · have hbh11 : ((E.c.kindAt (i) : Int) == 1) = true := by rw [h11]; rfl
    replace hI := hI.pos h11
    go_wp2_with fail
    refine (ih.namedStmt (E.c.place i) (i) h11 (hI.fuel1 hne) _ _ _ _ _ _ hs10.rd hs10.cur hs10.nb hs10.nF).mono ?_
    intro e w12 hp13
    rcases hrun14 : run E.c f (.namedStmt (splice zStmt 1 [.num ((E.c.place i : Nat) : Int)])) (i) with m | ⟨d18, j15⟩
    · rw [hrun14] at hp13
      obtain rfl := hp13.1
      rw [hI.eq, hrun14]
      exact ⟨rfl, hs10.wholeBad hp13⟩
    rw [hrun14] at hp13
    obtain rfl := hp13.1
    obtain ⟨F16, hs17⟩ := hs10.whole hp13
    replace hI : Is (.ok (d18, j15)) R := by rw [hrun14] at hI; exact hI
    clear hrun14
    go_wp2_with fail
    go_returns
    rw [hI.eq]
    exact hs17.done
  have hbh11 : ((E.c.kindAt (i) : Int) == 1) = false := by rw [beq_eq_false_iff_ne]; omega
  replace hI := hI.neg h11
  go_wp2_with fail
  refine (key_any E (i) _ hs10.rd 0 (i) (by omega) (by omega)).mono ?_
  rintro e w19 ⟨rfl, hm20⟩
  have hs21 := hs10.same hm20
  rcases Decidable.em (E.c.keyAt (i) = [123]) with h22 | h22
  · have hbh22 : (E.c.keyAt (i) == [123]) = true := beq_iff_eq.2 h22
    replace hI := hI.pos h22
    have Hh22 : Hid (E.c.keyAt (i) = [123]) := h22
    clear h22
    obtain ⟨v23, c24, _⟩ := hs21.cur.cell 0 _ rfl
    simp only [Nat.add_zero] at c24
    have fz25 := hs21.cur.free (o)
    go_wp2_with fail
    have hs26 := hs21.set0 (by decide) (.int .i64 14) (.num 14) (fun _ => .num _ _)
    obtain ⟨Fi34, hat35, hown36, hok37, hbad38⟩ := hs26.call 27 1 (by decide)
    refine (ih.body (i) (hI.fuel hne) _ Fi34 _ _ _ (o + 27) hs26.rd hat35 hs26.nb hown36).mono ?_
    intro e w27 hp28
    rcases hrun29 : run E.c f .body (i) with m | ⟨d33, j30⟩
    · rw [hrun29] at hp28
      obtain rfl := hp28.1
      rw [hI.err hrun29]
      exact ⟨rfl, hbad38 _ _ _ hp28⟩
    rw [hrun29] at hp28
    obtain rfl := hp28.1
    obtain ⟨d33x0, rfl⟩ := len1 hp28.2.2.1
    obtain ⟨F31, hs32⟩ := hok37 _ _ _ _ hp28
    replace hI := hI.ok hrun29
    clear hrun29
    go_wp2_with fail
    go_returns
    rw [hI.eq]
    exact hs32.done
  have hbh22 : (E.c.keyAt (i) == [123]) = false := beq_eq_false_iff_ne.2 h22
  replace hI := hI.neg h22
  rcases Decidable.em (E.c.keyAt (i) = [97, 116, 111, 109, 105, 99]) with h39 | h39
  · have hbh39 : (E.c.keyAt (i) == [97, 116, 111, 109, 105, 99]) = true := beq_iff_eq.2 h39
    replace hI := hI.pos h39
    have Hh39 : Hid (E.c.keyAt (i) = [97, 116, 111, 109, 105, 99]) := h39
    clear h39
    have c40 := hs21.rd.c2
    have f41 := hs21.rd.f2
    have hsm42 := E.small
    have hlt43 : i < E.c.T.length := Cx.lt_of_key Hh39.out (by decide)
    obtain ⟨v44, c45, _⟩ := hs21.cur.cell 0 _ rfl
    simp only [Nat.add_zero] at c45
    have fz46 := hs21.cur.free (o)
    go_wp2_with fail
    have hs47 := hs21.inc hlt43
    have hs48 := hs47.set0 (by decide) (.int .i64 12) (.num 12) (fun _ => .num _ _)
    obtain ⟨Fi56, hat57, hown58, hok59, hbad60⟩ := hs48.call 27 1 (by decide)
    refine (ih.body (i + 1) (hI.fuel hne) _ Fi56 _ _ _ (o + 27) hs48.rd hat57 hs48.nb hown58).mono ?_
    intro e w49 hp50
    rcases hrun51 : run E.c f .body (i + 1) with m | ⟨d55, j52⟩
    · rw [hrun51] at hp50
      obtain rfl := hp50.1
      rw [hI.err hrun51]
      exact ⟨rfl, hbad60 _ _ _ hp50⟩
    rw [hrun51] at hp50
    obtain rfl := hp50.1
    obtain ⟨d55x0, rfl⟩ := len1 hp50.2.2.1
    obtain ⟨F53, hs54⟩ := hok59 _ _ _ _ hp50
    replace hI := hI.ok hrun51
    clear hrun51
    go_wp2_with fail
    go_returns
    rw [hI.eq]
    exact hs54.done
  have hbh39 : (E.c.keyAt (i) == [97, 116, 111, 109, 105, 99]) = false := beq_eq_false_iff_ne.2 h39
  replace hI := hI.neg h39
  rcases Decidable.em (E.c.keyAt (i) = [100, 95, 115, 116, 101, 112]) with h61 | h61
  · have hbh61 : (E.c.keyAt (i) == [100, 95, 115, 116, 101, 112]) = true := beq_iff_eq.2 h61
    replace hI := hI.pos h61
    have Hh61 : Hid (E.c.keyAt (i) = [100, 95, 115, 116, 101, 112]) := h61
    clear h61
    have c62 := hs21.rd.c2
    have f63 := hs21.rd.f2
    have hsm64 := E.small
    have hlt65 : i < E.c.T.length := Cx.lt_of_key Hh61.out (by decide)
    obtain ⟨v66, c67, _⟩ := hs21.cur.cell 0 _ rfl
    simp only [Nat.add_zero] at c67
    have fz68 := hs21.cur.free (o)
    go_wp2_with fail
    have hs69 := hs21.inc hlt65
    have hs70 := hs69.set0 (by decide) (.int .i64 13) (.num 13) (fun _ => .num _ _)
    obtain ⟨Fi78, hat79, hown80, hok81, hbad82⟩ := hs70.call 27 1 (by decide)
    refine (ih.body (i + 1) (hI.fuel hne) _ Fi78 _ _ _ (o + 27) hs70.rd hat79 hs70.nb hown80).mono ?_
    intro e w71 hp72
    rcases hrun73 : run E.c f .body (i + 1) with m | ⟨d77, j74⟩
    · rw [hrun73] at hp72
      obtain rfl := hp72.1
      rw [hI.err hrun73]
      exact ⟨rfl, hbad82 _ _ _ hp72⟩
    rw [hrun73] at hp72
    obtain rfl := hp72.1
    obtain ⟨d77x0, rfl⟩ := len1 hp72.2.2.1
    obtain ⟨F75, hs76⟩ := hok81 _ _ _ _ hp72
    replace hI := hI.ok hrun73
    clear hrun73
    go_wp2_with fail
    go_returns
    rw [hI.eq]
    exact hs76.done
  have hbh61 : (E.c.keyAt (i) == [100, 95, 115, 116, 101, 112]) = false := beq_eq_false_iff_ne.2 h61
  replace hI := hI.neg h61
  rcases Decidable.em (E.c.keyAt (i) = [105, 102]) with h83 | h83
  · have hbh83 : (E.c.keyAt (i) == [105, 102]) = true := beq_iff_eq.2 h83
    replace hI := hI.pos h83
    have Hh83 : Hid (E.c.keyAt (i) = [105, 102]) := h83
    clear h83
    obtain ⟨v84, c85, _⟩ := hs21.cur.cell 0 _ rfl
    simp only [Nat.add_zero] at c85
    have fz86 := hs21.cur.free (o)
    go_wp2_with fail
    have hs87 := hs21.set0 (by decide) (.int .i64 7) (.num 7) (fun _ => .num _ _)
    obtain ⟨Fi95, hat96, hown97, hok98, hbad99⟩ := hs87.call 26 1 (by decide)
    refine (ih.options [102, 105] (i) (by decide) (Cx.lt_of_key Hh83.out (by decide)) (hI.fuel hne) _ Fi95 _ _ _ (o + 26) hs87.rd hat96 hs87.nb hown97).mono ?_
    intro e w88 hp89
    rcases hrun90 : run E.c f (.options [102, 105]) (i) with m | ⟨d94, j91⟩
    · rw [hrun90] at hp89
      obtain rfl := hp89.1
      rw [hI.err hrun90]
      exact ⟨rfl, hbad99 _ _ _ hp89⟩
    rw [hrun90] at hp89
    obtain rfl := hp89.1
    obtain ⟨d94x0, rfl⟩ := len1 hp89.2.2.1
    obtain ⟨F92, hs93⟩ := hok98 _ _ _ _ hp89
    replace hI := hI.ok hrun90
    clear hrun90
    go_wp2_with fail
    go_returns
    rw [hI.eq]
    exact hs93.done
  have hbh83 : (E.c.keyAt (i) == [105, 102]) = false := beq_eq_false_iff_ne.2 h83
  replace hI := hI.neg h83
  rcases Decidable.em (E.c.keyAt (i) = [100, 111]) with h100 | h100
  · have hbh100 : (E.c.keyAt (i) == [100, 111]) = true := beq_iff_eq.2 h100
    replace hI := hI.pos h100
    have Hh100 : Hid (E.c.keyAt (i) = [100, 111]) := h100
    clear h100
    obtain ⟨v101, c102, _⟩ := hs21.cur.cell 0 _ rfl
    simp only [Nat.add_zero] at c102
    have fz103 := hs21.cur.free (o)
    go_wp2_with fail
    have hs104 := hs21.set0 (by decide) (.int .i64 8) (.num 8) (fun _ => .num _ _)
    obtain ⟨Fi112, hat113, hown114, hok115, hbad116⟩ := hs104.call 26 1 (by decide)
    refine (ih.options [111, 100] (i) (by decide) (Cx.lt_of_key Hh100.out (by decide)) (hI.fuel hne) _ Fi112 _ _ _ (o + 26) hs104.rd hat113 hs104.nb hown114).mono ?_
    intro e w105 hp106
    rcases hrun107 : run E.c f (.options [111, 100]) (i) with m | ⟨d111, j108⟩
    · rw [hrun107] at hp106
      obtain rfl := hp106.1
      rw [hI.err hrun107]
      exact ⟨rfl, hbad116 _ _ _ hp106⟩
    rw [hrun107] at hp106
    obtain rfl := hp106.1
    obtain ⟨d111x0, rfl⟩ := len1 hp106.2.2.1
    obtain ⟨F109, hs110⟩ := hok115 _ _ _ _ hp106
    replace hI := hI.ok hrun107
    clear hrun107
    go_wp2_with fail
    go_returns
    rw [hI.eq]
    exact hs110.done
  have hbh100 : (E.c.keyAt (i) == [100, 111]) = false := beq_eq_false_iff_ne.2 h100
  replace hI := hI.neg h100
  go_wp2_with fail
  refine (ih.simple (E.c.place i) (i) (hI.fuel1 hne) _ _ _ _ _ _ hs21.rd hs21.cur hs21.nb hs21.nF).mono ?_
  intro e w117 hp118
  rcases hrun119 : run E.c f (.simple (splice zStmt 1 [.num ((E.c.place i : Nat) : Int)])) (i) with m | ⟨d123, j120⟩
  · rw [hrun119] at hp118
    obtain rfl := hp118.1
    rw [hI.eq, hrun119]
    exact ⟨rfl, hs21.wholeBad hp118⟩
  rw [hrun119] at hp118
  obtain rfl := hp118.1
  obtain ⟨F121, hs122⟩ := hs21.whole hp118
  replace hI : Is (.ok (d123, j120)) R := by rw [hrun119] at hI; exact hI
  clear hrun119
  go_wp2_with fail
  go_returns
  rw [hI.eq]
  exact hs122.done

end Go.Proofs.YthmdgbmodgfcmaaGreatDoor
/-
  What the reader's option does.
-/
namespace Go.Proofs.YthmdgbmodgfcmaaGreatDoor
open Go.RowKit

set_option maxHeartbeats 4000000 in
theorem option_does (E : Env) (f : Nat) (ih : Sp E f) : Rds E (f + 1) 150 [.row .stmt []] .option := by
  intro i hne w F b t N o hr ha hb hF
  have hs0 : St E w F b t N o 1 w F i [.row .stmt []] := St.start hr ha hb hF
  obtain ⟨R, hI, hR⟩ := Is.start (run E.c (f + 1) .option i)
  show Calls _ _ _ _ (Post E F b t N o 1 w _)
  rw [hR] at hne ⊢
  clear hR hr ha hF
  rw [run_option] at hI
  have hl := strOfL_toList
  have hbr : ¬ b = E.rb := fun e => hb (.inl e)
  have hbr' : ¬ E.rb = b := fun e => hb (.inl e.symm)
  have hmf : ∀ (fn : Fn) (first cap : Array Value) (w : World), (Instr.makeFunc fn first cap).run Tryz.prog w = .ok (.func fn first cap) w := fun _ _ _ _ => rfl
  go_enter Tryz.func150, Tryz.ntmps150
  go_wp2_with fail
  rcases (Decidable.em (E.c.keyAt (i) = [58, 58])).symm with h1 | h1
  · refine (need_no E (i) _ hs0.rd [58, 58] h1).mono ?_
    rintro e w2 ⟨rfl, hm4⟩
    rw [hI.nno h1]
    exact ⟨rfl, hs0.bad hm4 _⟩
  refine (need_yes E (i) _ hs0.rd [58, 58] h1 (by decide)).mono ?_
  rintro e w2 ⟨rfl, hr3, hm4⟩
  have hs5 := hs0.goes hr3 hm4
  replace hI := hI.nyes h1
  go_wp2_with fail
  refine (ih.steps (i + 1) (hI.fuel1 hne) _ _ _ _ _ _ hs5.rd hs5.cur hs5.nb hs5.nF).mono ?_
  intro e w6 hp7
  rcases hrun8 : run E.c f .steps (i + 1) with m | ⟨d12, j9⟩
  · rw [hrun8] at hp7
    obtain rfl := hp7.1
    rw [hI.eq, hrun8]
    exact ⟨rfl, hs5.wholeBad hp7⟩
  rw [hrun8] at hp7
  obtain rfl := hp7.1
  obtain ⟨F10, hs11⟩ := hs5.whole hp7
  replace hI : Is (.ok (d12, j9)) R := by rw [hrun8] at hI; exact hI
  clear hrun8
  go_wp2_with fail
  go_returns
  rw [hI.eq]
  exact hs11.done

end Go.Proofs.YthmdgbmodgfcmaaGreatDoor
/-
  What the reader's simple does.
-/
namespace Go.Proofs.YthmdgbmodgfcmaaGreatDoor
open Go.RowKit

set_option maxHeartbeats 4000000 in
theorem simple_does (E : Env) (f : Nat) (ih : Sp E f) : ∀ p : Nat, Rds E (f + 1) 142 (stmt0 p) (.simple (stmt0 p)) := by
  intro p i hne w F b t N o hr ha hb hF
  have hs0 : St E w F b t N o 28 w F i (stmt0 p) := St.start hr ha hb hF
  obtain ⟨R, hI, hR⟩ := Is.start (run E.c (f + 1) (.simple (stmt0 p)) i)
  show Calls _ _ _ _ (Post E F b t N o 28 w _)
  rw [hR] at hne ⊢
  clear hR hr ha hF
  rw [run_simple] at hI
  have hl := strOfL_toList
  have hbr : ¬ b = E.rb := fun e => hb (.inl e)
  have hbr' : ¬ E.rb = b := fun e => hb (.inl e.symm)
  have hmf : ∀ (fn : Fn) (first cap : Array Value) (w : World), (Instr.makeFunc fn first cap).run Tryz.prog w = .ok (.func fn first cap) w := fun _ _ _ _ => rfl
  go_enter Tryz.func142, Tryz.ntmps142
  go_wp2_with fail
  refine (key_any E (i) _ hs0.rd 0 (i) (by omega) (by omega)).mono ?_
  rintro e w1 ⟨rfl, hm2⟩
  have hs3 := hs0.same hm2
  rcases Decidable.em (E.c.keyAt (i) = [98, 114, 101, 97, 107]) with h4 | h4
  · have hbh4 : (E.c.keyAt (i) == [98, 114, 101, 97, 107]) = true := beq_iff_eq.2 h4
    replace hI := hI.pos h4
    have Hh4 : Hid (E.c.keyAt (i) = [98, 114, 101, 97, 107]) := h4
    clear h4
    have c5 := hs3.rd.c2
    have f6 := hs3.rd.f2
    have hsm7 := E.small
    have hlt8 : i < E.c.T.length := Cx.lt_of_key Hh4.out (by decide)
    obtain ⟨v9, c10, _⟩ := hs3.cur.cell 0 _ rfl
    simp only [Nat.add_zero] at c10
    have fz11 := hs3.cur.free (o)
    go_wp2_with fail
    have hs12 := hs3.inc hlt8
    have hs13 := hs12.set0 (by decide) (.int .i64 9) (.num 9) (fun _ => .num _ _)
    go_returns
    rw [hI.eq]
    exact hs13.done
  have hbh4 : (E.c.keyAt (i) == [98, 114, 101, 97, 107]) = false := beq_eq_false_iff_ne.2 h4
  replace hI := hI.neg h4
  rcases Decidable.em (E.c.keyAt (i) = [115, 107, 105, 112]) with h14 | h14
  · have hbh14 : (E.c.keyAt (i) == [115, 107, 105, 112]) = true := beq_iff_eq.2 h14
    replace hI := hI.pos h14
    have Hh14 : Hid (E.c.keyAt (i) = [115, 107, 105, 112]) := h14
    clear h14
    have c15 := hs3.rd.c2
    have f16 := hs3.rd.f2
    have hsm17 := E.small
    have hlt18 : i < E.c.T.length := Cx.lt_of_key Hh14.out (by decide)
    obtain ⟨v19, c20, _⟩ := hs3.cur.cell 0 _ rfl
    simp only [Nat.add_zero] at c20
    have fz21 := hs3.cur.free (o)
    go_wp2_with fail
    have hs22 := hs3.inc hlt18
    have hs23 := hs22.set0 (by decide) (.int .i64 19) (.num 19) (fun _ => .num _ _)
    go_returns
    rw [hI.eq]
    exact hs23.done
  have hbh14 : (E.c.keyAt (i) == [115, 107, 105, 112]) = false := beq_eq_false_iff_ne.2 h14
  replace hI := hI.neg h14
  rcases Decidable.em (E.c.keyAt (i) = [101, 108, 115, 101]) with h24 | h24
  · have hbh24 : (E.c.keyAt (i) == [101, 108, 115, 101]) = true := beq_iff_eq.2 h24
    replace hI := hI.pos h24
    have Hh24 : Hid (E.c.keyAt (i) = [101, 108, 115, 101]) := h24
    clear h24
    have c25 := hs3.rd.c2
    have f26 := hs3.rd.f2
    have hsm27 := E.small
    have hlt28 : i < E.c.T.length := Cx.lt_of_key Hh24.out (by decide)
    obtain ⟨v29, c30, _⟩ := hs3.cur.cell 0 _ rfl
    simp only [Nat.add_zero] at c30
    have fz31 := hs3.cur.free (o)
    go_wp2_with fail
    have hs32 := hs3.inc hlt28
    have hs33 := hs32.set0 (by decide) (.int .i64 20) (.num 20) (fun _ => .num _ _)
    go_returns
    rw [hI.eq]
    exact hs33.done
  have hbh24 : (E.c.keyAt (i) == [101, 108, 115, 101]) = false := beq_eq_false_iff_ne.2 h24
  replace hI := hI.neg h24
  rcases Decidable.em (E.c.keyAt (i) = [103, 111, 116, 111]) with h34 | h34
  · have hbh34 : (E.c.keyAt (i) == [103, 111, 116, 111]) = true := beq_iff_eq.2 h34
    replace hI := hI.pos h34
    have Hh34 : Hid (E.c.keyAt (i) = [103, 111, 116, 111]) := h34
    clear h34
    have c35 := hs3.rd.c2
    have f36 := hs3.rd.f2
    have hsm37 := E.small
    have hlt38 : i < E.c.T.length := Cx.lt_of_key Hh34.out (by decide)
    obtain ⟨v39, c40, _⟩ := hs3.cur.cell 0 _ rfl
    simp only [Nat.add_zero] at c40
    have fz41 := hs3.cur.free (o)
    go_wp2_with fail
    have hs42 := hs3.inc hlt38
    have hs43 := hs42.set0 (by decide) (.int .i64 10) (.num 10) (fun _ => .num _ _)
    obtain ⟨Fi51, hat52, hown53, hok54, hbad55⟩ := hs43.call 2 1 (by decide)
    refine (ih.name [] (i + 1) (hI.fuel hne) _ Fi51 _ _ _ (o + 2) hs43.rd hat52 hs43.nb hown53).mono ?_
    intro e w44 hp45
    rcases hrun46 : run E.c f .name (i + 1) with m | ⟨d50, j47⟩
    · rw [hrun46] at hp45
      obtain rfl := hp45.1
      rw [hI.err hrun46]
      exact ⟨rfl, hbad55 _ _ _ hp45⟩
    rw [hrun46] at hp45
    obtain rfl := hp45.1
    obtain ⟨d50x0, rfl⟩ := len1 hp45.2.2.1
    obtain ⟨F48, hs49⟩ := hok54 _ _ _ _ hp45
    replace hI := hI.ok hrun46
    clear hrun46
    go_wp2_with fail
    go_returns
    rw [hI.eq]
    exact hs49.done
  have hbh34 : (E.c.keyAt (i) == [103, 111, 116, 111]) = false := beq_eq_false_iff_ne.2 h34
  replace hI := hI.neg h34
  rcases Decidable.em (E.c.keyAt (i) = [97, 115, 115, 101, 114, 116]) with h56 | h56
  · have hbh56 : (E.c.keyAt (i) == [97, 115, 115, 101, 114, 116]) = true := beq_iff_eq.2 h56
    replace hI := hI.pos h56
    have Hh56 : Hid (E.c.keyAt (i) = [97, 115, 115, 101, 114, 116]) := h56
    clear h56
    go_wp2_with fail
    refine (ih.assertion p (i) (hI.fuel1 hne) _ _ _ _ _ _ hs3.rd hs3.cur hs3.nb hs3.nF).mono ?_
    intro e w57 hp58
    rcases hrun59 : run E.c f (.assertion (stmt0 p)) (i) with m | ⟨d63, j60⟩
    · rw [hrun59] at hp58
      obtain rfl := hp58.1
      rw [hI.eq, hrun59]
      exact ⟨rfl, hs3.wholeBad hp58⟩
    rw [hrun59] at hp58
    obtain rfl := hp58.1
    obtain ⟨F61, hs62⟩ := hs3.whole hp58
    replace hI : Is (.ok (d63, j60)) R := by rw [hrun59] at hI; exact hI
    clear hrun59
    go_wp2_with fail
    go_returns
    rw [hI.eq]
    exact hs62.done
  have hbh56 : (E.c.keyAt (i) == [97, 115, 115, 101, 114, 116]) = false := beq_eq_false_iff_ne.2 h56
  replace hI := hI.neg h56
  rcases Decidable.em (E.c.keyAt (i) = [112, 114, 105, 110, 116, 102]) with h64 | h64
  · have hbh64 : (E.c.keyAt (i) == [112, 114, 105, 110, 116, 102]) = true := beq_iff_eq.2 h64
    replace hI := hI.pos h64
    have Hh64 : Hid (E.c.keyAt (i) = [112, 114, 105, 110, 116, 102]) := h64
    clear h64
    go_wp2_with fail
    refine (ih.print p (i) (hI.fuel1 hne) _ _ _ _ _ _ hs3.rd hs3.cur hs3.nb hs3.nF).mono ?_
    intro e w65 hp66
    rcases hrun67 : run E.c f (.print (stmt0 p)) (i) with m | ⟨d71, j68⟩
    · rw [hrun67] at hp66
      obtain rfl := hp66.1
      rw [hI.eq, hrun67]
      exact ⟨rfl, hs3.wholeBad hp66⟩
    rw [hrun67] at hp66
    obtain rfl := hp66.1
    obtain ⟨F69, hs70⟩ := hs3.whole hp66
    replace hI : Is (.ok (d71, j68)) R := by rw [hrun67] at hI; exact hI
    clear hrun67
    go_wp2_with fail
    go_returns
    rw [hI.eq]
    exact hs70.done
  have hbh64 : (E.c.keyAt (i) == [112, 114, 105, 110, 116, 102]) = false := beq_eq_false_iff_ne.2 h64
  replace hI := hI.neg h64
  obtain ⟨v72, c73, _⟩ := hs3.cur.cell 0 _ rfl
  simp only [Nat.add_zero] at c73
  have fz74 := hs3.cur.free (o)
  go_wp2_with fail
  have hs75 := hs3.set0 (by decide) (.int .i64 2) (.num 2) (fun _ => .num _ _)
  obtain ⟨Fi83, hat84, hown85, hok86, hbad87⟩ := hs75.call 11 9 (by decide)
  refine (ih.expr (i) (hI.fuel hne) _ Fi83 _ _ _ (o + 11) hs75.rd hat84 hs75.nb hown85).mono ?_
  intro e w76 hp77
  rcases hrun78 : run E.c f .expr (i) with m | ⟨d82, j79⟩
  · rw [hrun78] at hp77
    obtain rfl := hp77.1
    rw [hI.err hrun78]
    exact ⟨rfl, hbad87 _ _ _ hp77⟩
  rw [hrun78] at hp77
  obtain rfl := hp77.1
  obtain ⟨d82x0, d82x1, d82x2, d82x3, d82x4, d82x5, d82x6, d82x7, d82x8, rfl⟩ := len9 hp77.2.2.1
  obtain ⟨F80, hs81⟩ := hok86 _ _ _ _ hp77
  replace hI := hI.ok hrun78
  clear hrun78
  go_wp2_with fail
  go_returns
  rw [hI.eq]
  exact hs81.done

end Go.Proofs.YthmdgbmodgfcmaaGreatDoor
/-
  What the reader's assertion does.
-/
namespace Go.Proofs.YthmdgbmodgfcmaaGreatDoor
open Go.RowKit

set_option maxHeartbeats 4000000 in
theorem assertion_does (E : Env) (f : Nat) (ih : Sp E f) : ∀ p : Nat, Rds E (f + 1) 151 (stmt0 p) (.assertion (stmt0 p)) := by
  intro p i hne w F b t N o hr ha hb hF
  have hs0 : St E w F b t N o 28 w F i (stmt0 p) := St.start hr ha hb hF
  obtain ⟨R, hI, hR⟩ := Is.start (run E.c (f + 1) (.assertion (stmt0 p)) i)
  show Calls _ _ _ _ (Post E F b t N o 28 w _)
  rw [hR] at hne ⊢
  clear hR hr ha hF
  rw [run_assertion] at hI
  have hl := strOfL_toList
  have hbr : ¬ b = E.rb := fun e => hb (.inl e)
  have hbr' : ¬ E.rb = b := fun e => hb (.inl e.symm)
  have hmf : ∀ (fn : Fn) (first cap : Array Value) (w : World), (Instr.makeFunc fn first cap).run Tryz.prog w = .ok (.func fn first cap) w := fun _ _ _ _ => rfl
  go_enter Tryz.func151, Tryz.ntmps151
  go_wp2_with fail
  rcases (Decidable.em (E.c.keyAt (i) = [97, 115, 115, 101, 114, 116])).symm with h1 | h1
  · refine (need_no E (i) _ hs0.rd [97, 115, 115, 101, 114, 116] h1).mono ?_
    rintro e w2 ⟨rfl, hm4⟩
    rw [hI.nno h1]
    exact ⟨rfl, hs0.bad hm4 _⟩
  refine (need_yes E (i) _ hs0.rd [97, 115, 115, 101, 114, 116] h1 (by decide)).mono ?_
  rintro e w2 ⟨rfl, hr3, hm4⟩
  have hs5 := hs0.goes hr3 hm4
  replace hI := hI.nyes h1
  obtain ⟨v6, c7, _⟩ := hs5.cur.cell 0 _ rfl
  simp only [Nat.add_zero] at c7
  have fz8 := hs5.cur.free (o)
  go_wp2_with fail
  have hs9 := hs5.set0 (by decide) (.int .i64 16) (.num 16) (fun _ => .num _ _)
  rcases (Decidable.em (E.c.keyAt (i + 1) = [40])).symm with h10 | h10
  · refine (need_no E (i + 1) _ hs9.rd [40] h10).mono ?_
    rintro e w11 ⟨rfl, hm13⟩
    rw [hI.nno h10]
    exact ⟨rfl, hs9.bad hm13 _⟩
  refine (need_yes E (i + 1) _ hs9.rd [40] h10 (by decide)).mono ?_
  rintro e w11 ⟨rfl, hr12, hm13⟩
  have hs14 := hs9.goes hr12 hm13
  replace hI := hI.nyes h10
  go_wp2_with fail
  obtain ⟨Fi22, hat23, hown24, hok25, hbad26⟩ := hs14.call 11 9 (by decide)
  refine (ih.expr (i + 1 + 1) (hI.fuel hne) _ Fi22 _ _ _ (o + 11) hs14.rd hat23 hs14.nb hown24).mono ?_
  intro e w15 hp16
  rcases hrun17 : run E.c f .expr (i + 1 + 1) with m | ⟨d21, j18⟩
  · rw [hrun17] at hp16
    obtain rfl := hp16.1
    rw [hI.err hrun17]
    exact ⟨rfl, hbad26 _ _ _ hp16⟩
  rw [hrun17] at hp16
  obtain rfl := hp16.1
  obtain ⟨d21x0, d21x1, d21x2, d21x3, d21x4, d21x5, d21x6, d21x7, d21x8, rfl⟩ := len9 hp16.2.2.1
  obtain ⟨F19, hs20⟩ := hok25 _ _ _ _ hp16
  replace hI := hI.ok hrun17
  clear hrun17
  go_wp2_with fail
  rcases (Decidable.em (E.c.keyAt (j18) = [41])).symm with h27 | h27
  · refine (need_no E (j18) _ hs20.rd [41] h27).mono ?_
    rintro e w28 ⟨rfl, hm30⟩
    rw [hI.nno h27]
    exact ⟨rfl, hs20.bad hm30 _⟩
  refine (need_yes E (j18) _ hs20.rd [41] h27 (by decide)).mono ?_
  rintro e w28 ⟨rfl, hr29, hm30⟩
  have hs31 := hs20.goes hr29 hm30
  replace hI := hI.nyes h27
  go_wp2_with fail
  go_returns
  rw [hI.eq]
  exact hs31.done

end Go.Proofs.YthmdgbmodgfcmaaGreatDoor
/-
  What the reader's print does.
-/
namespace Go.Proofs.YthmdgbmodgfcmaaGreatDoor
open Go.RowKit

set_option maxHeartbeats 4000000 in
theorem print_does (E : Env) (f : Nat) (hf : f + 1 ≤ 1000000) (ih : Sp E f) : ∀ p : Nat, Rds E (f + 1) 152 (stmt0 p) (.print (stmt0 p)) := by
  intro p i hne w F b t N o hr ha hb hF
  have hs0 : St E w F b t N o 28 w F i (stmt0 p) := St.start hr ha hb hF
  obtain ⟨R, hI, hR⟩ := Is.start (run E.c (f + 1) (.print (stmt0 p)) i)
  show Calls _ _ _ _ (Post E F b t N o 28 w _)
  rw [hR] at hne ⊢
  clear hR hr ha hF
  rw [run_print] at hI
  have hl := strOfL_toList
  have hbr : ¬ b = E.rb := fun e => hb (.inl e)
  have hbr' : ¬ E.rb = b := fun e => hb (.inl e.symm)
  have hmf : ∀ (fn : Fn) (first cap : Array Value) (w : World), (Instr.makeFunc fn first cap).run Tryz.prog w = .ok (.func fn first cap) w := fun _ _ _ _ => rfl
  go_enter Tryz.func152, Tryz.ntmps152
  go_wp2_with fail
  rcases (Decidable.em (E.c.keyAt (i) = [112, 114, 105, 110, 116, 102])).symm with h1 | h1
  · refine (need_no E (i) _ hs0.rd [112, 114, 105, 110, 116, 102] h1).mono ?_
    rintro e w2 ⟨rfl, hm4⟩
    rw [hI.nno h1]
    exact ⟨rfl, hs0.bad hm4 _⟩
  refine (need_yes E (i) _ hs0.rd [112, 114, 105, 110, 116, 102] h1 (by decide)).mono ?_
  rintro e w2 ⟨rfl, hr3, hm4⟩
  have hs5 := hs0.goes hr3 hm4
  replace hI := hI.nyes h1
  go_wp2_with fail
  rcases (Decidable.em (E.c.keyAt (i + 1) = [40])).symm with h6 | h6
  · refine (need_no E (i + 1) _ hs5.rd [40] h6).mono ?_
    rintro e w7 ⟨rfl, hm9⟩
    rw [hI.nno h6]
    exact ⟨rfl, hs5.bad hm9 _⟩
  refine (need_yes E (i + 1) _ hs5.rd [40] h6 (by decide)).mono ?_
  rintro e w7 ⟨rfl, hr8, hm9⟩
  have hs10 := hs5.goes hr8 hm9
  replace hI := hI.nyes h6
  go_wp2_with fail
  rcases (Decidable.em (E.c.kindAt (i + 1 + 1) = 3)).symm with h11 | h11
  · refine (next_no E (i + 1 + 1) _ hs10.rd 3 h11).mono ?_
    rintro e w12 ⟨rfl, hm14⟩
    rw [(hI.neg h11).eq]
    exact ⟨rfl, hs10.bad hm14 _⟩
  obtain ⟨tk, htk, _, htx, _, _⟩ := Cx.some_of_kind h11 (by decide)
  replace hI := hI.pos h11
  rw [htx] at hI
  refine (next_yes E (i + 1 + 1) _ hs10.rd 3 h11 (by decide)).mono ?_
  rintro e w12 ⟨rfl, hr13, hm14⟩
  have hs15 := hs10.goes hr13 hm14
  have wt := (hr13.words _ tk htk).2.1
  obtain ⟨v16, c17, _⟩ := hs15.cur.cell 0 _ rfl
  simp only [Nat.add_zero] at c17
  have fz18 := hs15.cur.free (o)
  obtain ⟨v19, c20, _⟩ := hs15.cur.cell 3 _ rfl
  have fz21 := hs15.cur.free (o + 3)
  go_wp2_with fail
  have hs22 := hs15.set0 (by decide) (.int .i64 17) (.num 17) (fun _ => .num _ _)
  have hs23 := hs22.set 3 (by decide) (.string (strOfL tk.text)) (.str tk.text) (fun _ => .str _ _)
  rcases Decidable.em (E.c.keyAt (i + 1 + 1 + 1) = [44]) with h24 | h24
  · refine (take_yes E (i + 1 + 1 + 1) _ hs23.rd [44] h24 (by decide)).mono ?_
    rintro e w25 ⟨rfl, hr26, hm27⟩
    have hs28 := hs23.goes hr26 hm27
    replace hI := hI.pos h24
    go_wp2_with fail
    obtain ⟨Fi36, hat37, hown38, hok39, hbad40⟩ := hs28.call 20 1 (by decide)
    refine (ih.rowAst [] (by simp; omega) (i + 1 + 1 + 1 + 1) (hI.fuel hne) _ Fi36 _ _ _ (o + 20) hs28.rd hat37 hs28.nb hown38).mono ?_
    intro e w29 hp30
    rcases hrun31 : run E.c f (.row .expr .ast []) (i + 1 + 1 + 1 + 1) with m | ⟨d35, j32⟩
    · rw [hrun31] at hp30
      obtain rfl := hp30.1
      rw [hI.err hrun31]
      exact ⟨rfl, hbad40 _ _ _ hp30⟩
    rw [hrun31] at hp30
    obtain rfl := hp30.1
    obtain ⟨d35x0, rfl⟩ := len1 hp30.2.2.1
    obtain ⟨F33, hs34⟩ := hok39 _ _ _ _ hp30
    replace hI := hI.ok hrun31
    clear hrun31
    go_wp2_with fail
    rcases (Decidable.em (E.c.keyAt (j32) = [41])).symm with h41 | h41
    · refine (need_no E (j32) _ hs34.rd [41] h41).mono ?_
      rintro e w42 ⟨rfl, hm44⟩
      rw [hI.nno h41]
      exact ⟨rfl, hs34.bad hm44 _⟩
    refine (need_yes E (j32) _ hs34.rd [41] h41 (by decide)).mono ?_
    rintro e w42 ⟨rfl, hr43, hm44⟩
    have hs45 := hs34.goes hr43 hm44
    replace hI := hI.nyes h41
    go_wp2_with fail
    go_returns
    rw [hI.eq]
    exact hs45.done
  · refine (take_no E (i + 1 + 1 + 1) _ hs23.rd [44] h24).mono ?_
    rintro e w25 ⟨rfl, hm27⟩
    have hs28 := hs23.same hm27
    replace hI := hI.neg h24
    go_wp2_with fail
    rcases (Decidable.em (E.c.keyAt (i + 1 + 1 + 1) = [41])).symm with h46 | h46
    · refine (need_no E (i + 1 + 1 + 1) _ hs28.rd [41] h46).mono ?_
      rintro e w47 ⟨rfl, hm49⟩
      rw [hI.nno h46]
      exact ⟨rfl, hs28.bad hm49 _⟩
    refine (need_yes E (i + 1 + 1 + 1) _ hs28.rd [41] h46 (by decide)).mono ?_
    rintro e w47 ⟨rfl, hr48, hm49⟩
    have hs50 := hs28.goes hr48 hm49
    replace hI := hI.nyes h46
    go_wp2_with fail
    go_returns
    rw [hI.eq]
    exact hs50.done

end Go.Proofs.YthmdgbmodgfcmaaGreatDoor
/-
  What the reader's onVariable does.
-/
namespace Go.Proofs.YthmdgbmodgfcmaaGreatDoor
open Go.RowKit

set_option maxHeartbeats 4000000 in
theorem onVariable_does (E : Env) (f : Nat) (ih : Sp E f) : ∀ (p i : Nat), E.c.kindAt i = 1 → ¬ OOF (run E.c (f + 1) (.onVariable (stmt0 p)) i) → Reads E 148 (stmt0 p) i (run E.c (f + 1) (.onVariable (stmt0 p)) i) := by
  intro p i hk hne w F b t N o hr ha hb hF
  have hs0 : St E w F b t N o 28 w F i (stmt0 p) := St.start hr ha hb hF
  obtain ⟨R, hI, hR⟩ := Is.start (run E.c (f + 1) (.onVariable (stmt0 p)) i)
  show Calls _ _ _ _ (Post E F b t N o 28 w _)
  rw [hR] at hne ⊢
  clear hR hr ha hF
  rw [run_onVariable] at hI
  have hl := strOfL_toList
  have hbr : ¬ b = E.rb := fun e => hb (.inl e)
  have hbr' : ¬ E.rb = b := fun e => hb (.inl e.symm)
  have hmf : ∀ (fn : Fn) (first cap : Array Value) (w : World), (Instr.makeFunc fn first cap).run Tryz.prog w = .ok (.func fn first cap) w := fun _ _ _ _ => rfl
  have hiT := hs0.rd.le
  go_enter Tryz.func148, Tryz.ntmps148
  have c2a := hs0.rd.c2
  go_wp2_with fail
  obtain ⟨Fi8, hat9, hown10, hok11, hbad12⟩ := hs0.call 8 3 (by decide)
  refine (ih.ref (i) (hI.fuel hne) _ Fi8 _ _ _ (o + 8) hs0.rd hat9 hs0.nb hown10).mono ?_
  intro e w1 hp2
  rcases hrun3 : run E.c f .ref (i) with m | ⟨d7, j4⟩
  · rw [hrun3] at hp2
    obtain rfl := hp2.1
    rw [hI.err hrun3]
    exact ⟨rfl, hbad12 _ _ _ hp2⟩
  rw [hrun3] at hp2
  obtain rfl := hp2.1
  obtain ⟨d7x0, d7x1, d7x2, rfl⟩ := len3 hp2.2.2.1
  obtain ⟨F5, hs6⟩ := hok11 _ _ _ _ hp2
  replace hI := hI.ok hrun3
  clear hrun3
  go_wp2_with fail
  refine (key_any E (j4) _ hs6.rd 0 (j4) (by omega) (by omega)).mono ?_
  rintro e wk ⟨rfl, hmk⟩
  have hsk := hs6.same hmk
  go_wp2_with fail
  refine (isPoll_any E (j4) _ hsk.rd).mono ?_
  rintro e wp ⟨rfl, hmp⟩
  have hsp := hsk.same hmp
  cases hpl : isPoll E.c (j4) with
  | true =>
    replace hI := hI.pos hpl
    have cb := hsp.rd.c2
    have fb := hsp.rd.f2
    have hsmb := E.small
    have hleb := hsp.rd.le
    obtain ⟨v13, c14, _⟩ := hsp.cur.cell 0 _ rfl
    have fz15 := hsp.cur.free (o)
    simp only [Nat.add_zero] at c14
    obtain ⟨v16, c17, _⟩ := hsp.cur.cell 8 _ rfl
    have fz18 := hsp.cur.free (o + 8)
    obtain ⟨v19, c20, _⟩ := hsp.cur.cell 9 _ rfl
    have fz21 := hsp.cur.free (o + 9)
    obtain ⟨v22, c23, _⟩ := hsp.cur.cell 10 _ rfl
    have fz24 := hsp.cur.free (o + 10)
    go_wp2_with fail
    have hsb := hsp.back (.int .i64 ((j4 : Int) + 1)) i hiT
    have hs25 := hsb.set0 (by decide) (.int .i64 2) (.num 2) (fun _ => .num _ _)
    have hs26 := hs25.set 8 (by decide) (.slice none 0 0) (.row .str []) (fun _ => .nil _ _)
    have hs27 := hs26.set 9 (by decide) (.slice none 0 0) (.row .ast []) (fun _ => .nil _ _)
    have hs28 := hs27.set 10 (by decide) (.slice none 0 0) (.row .bool []) (fun _ => .nil _ _)
    obtain ⟨Fi36, hat37, hown38, hok39, hbad40⟩ := hs28.call 11 9 (by decide)
    refine (ih.expr (i) (hI.fuel hne) _ Fi36 _ _ _ (o + 11) hs28.rd hat37 hs28.nb hown38).mono ?_
    intro e w29 hp30
    rcases hrun31 : run E.c f .expr (i) with m | ⟨d35, j32⟩
    · rw [hrun31] at hp30
      obtain rfl := hp30.1
      rw [hI.err hrun31]
      exact ⟨rfl, hbad40 _ _ _ hp30⟩
    rw [hrun31] at hp30
    obtain rfl := hp30.1
    obtain ⟨d35x0, d35x1, d35x2, d35x3, d35x4, d35x5, d35x6, d35x7, d35x8, rfl⟩ := len9 hp30.2.2.1
    obtain ⟨F33, hs34⟩ := hok39 _ _ _ _ hp30
    replace hI := hI.ok hrun31
    clear hrun31
    go_wp2_with fail
    go_returns
    rw [hI.eq]
    exact hs34.done
  | false =>
    replace hI := hI.neg (by simp [hpl])
    have cb := hsp.rd.c2
    have fb := hsp.rd.f2
    have hsmb := E.small
    have hleb := hsp.rd.le
    rcases Decidable.em (E.c.keyAt (j4) = [61]) with h41 | h41
    · have hbh41 : (E.c.keyAt (j4) == [61]) = true := beq_iff_eq.2 h41
      replace hI := hI.pos h41
      have Hh41 : Hid (E.c.keyAt (j4) = [61]) := h41
      clear h41
      have c42 := hsp.rd.c2
      have f43 := hsp.rd.f2
      have hsm44 := E.small
      have hlt45 : j4 < E.c.T.length := Cx.lt_of_key Hh41.out (by decide)
      obtain ⟨v46, c47, _⟩ := hsp.cur.cell 0 _ rfl
      simp only [Nat.add_zero] at c47
      have fz48 := hsp.cur.free (o)
      go_wp2_with fail
      have hs49 := hsp.inc hlt45
      have hs50 := hs49.set0 (by decide) (.int .i64 3) (.num 3) (fun _ => .num _ _)
      obtain ⟨Fi58, hat59, hown60, hok61, hbad62⟩ := hs50.call 11 9 (by decide)
      refine (ih.expr (j4 + 1) (hI.fuel hne) _ Fi58 _ _ _ (o + 11) hs50.rd hat59 hs50.nb hown60).mono ?_
      intro e w51 hp52
      rcases hrun53 : run E.c f .expr (j4 + 1) with m | ⟨d57, j54⟩
      · rw [hrun53] at hp52
        obtain rfl := hp52.1
        rw [hI.err hrun53]
        exact ⟨rfl, hbad62 _ _ _ hp52⟩
      rw [hrun53] at hp52
      obtain rfl := hp52.1
      obtain ⟨d57x0, d57x1, d57x2, d57x3, d57x4, d57x5, d57x6, d57x7, d57x8, rfl⟩ := len9 hp52.2.2.1
      obtain ⟨F55, hs56⟩ := hok61 _ _ _ _ hp52
      replace hI := hI.ok hrun53
      clear hrun53
      go_wp2_with fail
      go_returns
      rw [hI.eq]
      exact hs56.done
    have hbh41 : (E.c.keyAt (j4) == [61]) = false := beq_eq_false_iff_ne.2 h41
    replace hI := hI.neg h41
    rcases Decidable.em (E.c.keyAt (j4) = [43, 43]) with h63 | h63
    · have hbh63 : (E.c.keyAt (j4) == [43, 43]) = true := beq_iff_eq.2 h63
      replace hI := hI.pos h63
      have Hh63 : Hid (E.c.keyAt (j4) = [43, 43]) := h63
      clear h63
      have c64 := hsp.rd.c2
      have f65 := hsp.rd.f2
      have hsm66 := E.small
      have hlt67 : j4 < E.c.T.length := Cx.lt_of_key Hh63.out (by decide)
      obtain ⟨v68, c69, _⟩ := hsp.cur.cell 0 _ rfl
      simp only [Nat.add_zero] at c69
      have fz70 := hsp.cur.free (o)
      obtain ⟨v71, c72, _⟩ := hsp.cur.cell 4 _ rfl
      have fz73 := hsp.cur.free (o + 4)
      go_wp2_with fail
      have hs74 := hsp.inc hlt67
      have hs75 := hs74.set0 (by decide) (.int .i64 4) (.num 4) (fun _ => .num _ _)
      have hs76 := hs75.set 4 (by decide) (.int .i64 1) (.num 1) (fun _ => .num _ _)
      go_returns
      rw [hI.eq]
      exact hs76.done
    have hbh63 : (E.c.keyAt (j4) == [43, 43]) = false := beq_eq_false_iff_ne.2 h63
    replace hI := hI.neg h63
    rcases Decidable.em (E.c.keyAt (j4) = [45, 45]) with h77 | h77
    · have hbh77 : (E.c.keyAt (j4) == [45, 45]) = true := beq_iff_eq.2 h77
      replace hI := hI.pos h77
      have Hh77 : Hid (E.c.keyAt (j4) = [45, 45]) := h77
      clear h77
      have c78 := hsp.rd.c2
      have f79 := hsp.rd.f2
      have hsm80 := E.small
      have hlt81 : j4 < E.c.T.length := Cx.lt_of_key Hh77.out (by decide)
      obtain ⟨v82, c83, _⟩ := hsp.cur.cell 0 _ rfl
      simp only [Nat.add_zero] at c83
      have fz84 := hsp.cur.free (o)
      obtain ⟨v85, c86, _⟩ := hsp.cur.cell 4 _ rfl
      have fz87 := hsp.cur.free (o + 4)
      go_wp2_with fail
      have hs88 := hsp.inc hlt81
      have hs89 := hs88.set0 (by decide) (.int .i64 4) (.num 4) (fun _ => .num _ _)
      have hs90 := hs89.set 4 (by decide) (.int .i64 (-1)) (.num (-1)) (fun _ => .num _ _)
      go_returns
      rw [hI.eq]
      exact hs90.done
    have hbh77 : (E.c.keyAt (j4) == [45, 45]) = false := beq_eq_false_iff_ne.2 h77
    replace hI := hI.neg h77
    rcases Decidable.em (E.c.keyAt (j4) = [33]) with h91 | h91
    · have hbh91 : (E.c.keyAt (j4) == [33]) = true := beq_iff_eq.2 h91
      replace hI := hI.pos (.inl h91)
      have Hh91 : Hid (E.c.keyAt (j4) = [33]) := h91
      clear h91
      have heq : (E.c.keyAt (j4) == [33, 33]) = false := by rw [Hh91.out]; rfl
      rw [show decide (E.c.keyAt (j4) = [33, 33]) = false from by rw [Hh91.out]; rfl] at hI
      have c92 := hsp.rd.c2
      have f93 := hsp.rd.f2
      have hsm94 := E.small
      have hlt95 : j4 < E.c.T.length := Cx.lt_of_key Hh91.out (by decide)
      obtain ⟨v96, c97, _⟩ := hsp.cur.cell 0 _ rfl
      simp only [Nat.add_zero] at c97
      have fz98 := hsp.cur.free (o)
      obtain ⟨v99, c100, _⟩ := hsp.cur.cell 5 _ rfl
      have fz101 := hsp.cur.free (o + 5)
      go_wp2_with fail
      have hs102 := hsp.inc hlt95
      have hs103 := hs102.set0 (by decide) (.int .i64 5) (.num 5) (fun _ => .num _ _)
      have hs104 := hs103.set 5 (by decide) (.bool false) (.bit false) (fun _ => .bit _ _)
      obtain ⟨Fi112, hat113, hown114, hok115, hbad116⟩ := hs104.call 20 1 (by decide)
      refine (ih.msgAst (j4 + 1) (hI.fuel hne) _ Fi112 _ _ _ (o + 20) hs104.rd hat113 hs104.nb hown114).mono ?_
      intro e w105 hp106
      rcases hrun107 : run E.c f (.message .expr .ast) (j4 + 1) with m | ⟨d111, j108⟩
      · rw [hrun107] at hp106
        obtain rfl := hp106.1
        rw [hI.err hrun107]
        exact ⟨rfl, hbad116 _ _ _ hp106⟩
      rw [hrun107] at hp106
      obtain rfl := hp106.1
      obtain ⟨d111x0, rfl⟩ := len1 hp106.2.2.1
      obtain ⟨F109, hs110⟩ := hok115 _ _ _ _ hp106
      replace hI := hI.ok hrun107
      clear hrun107
      go_wp2_with fail
      go_returns
      rw [hI.eq]
      exact hs110.done
    have hbh91 : (E.c.keyAt (j4) == [33]) = false := beq_eq_false_iff_ne.2 h91
    rcases Decidable.em (E.c.keyAt (j4) = [33, 33]) with h117 | h117
    · have hbh117 : (E.c.keyAt (j4) == [33, 33]) = true := beq_iff_eq.2 h117
      replace hI := hI.pos (.inr h117)
      have Hh117 : Hid (E.c.keyAt (j4) = [33, 33]) := h117
      clear h117
      have heq : (E.c.keyAt (j4) == [33, 33]) = true := by rw [Hh117.out]; rfl
      rw [show decide (E.c.keyAt (j4) = [33, 33]) = true from by rw [Hh117.out]; rfl] at hI
      have c118 := hsp.rd.c2
      have f119 := hsp.rd.f2
      have hsm120 := E.small
      have hlt121 : j4 < E.c.T.length := Cx.lt_of_key Hh117.out (by decide)
      obtain ⟨v122, c123, _⟩ := hsp.cur.cell 0 _ rfl
      simp only [Nat.add_zero] at c123
      have fz124 := hsp.cur.free (o)
      obtain ⟨v125, c126, _⟩ := hsp.cur.cell 5 _ rfl
      have fz127 := hsp.cur.free (o + 5)
      go_wp2_with fail
      have hs128 := hsp.inc hlt121
      have hs129 := hs128.set0 (by decide) (.int .i64 5) (.num 5) (fun _ => .num _ _)
      have hs130 := hs129.set 5 (by decide) (.bool true) (.bit true) (fun _ => .bit _ _)
      obtain ⟨Fi138, hat139, hown140, hok141, hbad142⟩ := hs130.call 20 1 (by decide)
      refine (ih.msgAst (j4 + 1) (hI.fuel hne) _ Fi138 _ _ _ (o + 20) hs130.rd hat139 hs130.nb hown140).mono ?_
      intro e w131 hp132
      rcases hrun133 : run E.c f (.message .expr .ast) (j4 + 1) with m | ⟨d137, j134⟩
      · rw [hrun133] at hp132
        obtain rfl := hp132.1
        rw [hI.err hrun133]
        exact ⟨rfl, hbad142 _ _ _ hp132⟩
      rw [hrun133] at hp132
      obtain rfl := hp132.1
      obtain ⟨d137x0, rfl⟩ := len1 hp132.2.2.1
      obtain ⟨F135, hs136⟩ := hok141 _ _ _ _ hp132
      replace hI := hI.ok hrun133
      clear hrun133
      go_wp2_with fail
      go_returns
      rw [hI.eq]
      exact hs136.done
    have hbh117 : (E.c.keyAt (j4) == [33, 33]) = false := beq_eq_false_iff_ne.2 h117
    replace hI := hI.neg (by simp only [h91, h117, or_self, not_false_eq_true])
    rcases Decidable.em (E.c.keyAt (j4) = [63]) with h143 | h143
    · have hbh143 : (E.c.keyAt (j4) == [63]) = true := beq_iff_eq.2 h143
      replace hI := hI.pos (.inl h143)
      have Hh143 : Hid (E.c.keyAt (j4) = [63]) := h143
      clear h143
      have heq : (E.c.keyAt (j4) == [63, 63]) = false := by rw [Hh143.out]; rfl
      rw [show decide (E.c.keyAt (j4) = [63, 63]) = false from by rw [Hh143.out]; rfl] at hI
      have c144 := hsp.rd.c2
      have f145 := hsp.rd.f2
      have hsm146 := E.small
      have hlt147 : j4 < E.c.T.length := Cx.lt_of_key Hh143.out (by decide)
      obtain ⟨v148, c149, _⟩ := hsp.cur.cell 0 _ rfl
      simp only [Nat.add_zero] at c149
      have fz150 := hsp.cur.free (o)
      obtain ⟨v151, c152, _⟩ := hsp.cur.cell 6 _ rfl
      have fz153 := hsp.cur.free (o + 6)
      go_wp2_with fail
      have hs154 := hsp.inc hlt147
      have hs155 := hs154.set0 (by decide) (.int .i64 6) (.num 6) (fun _ => .num _ _)
      have hs156 := hs155.set 6 (by decide) (.bool false) (.bit false) (fun _ => .bit _ _)
      refine (ih.received (splice (splice (splice (stmt0 p) 0 [.num 6]) 6 [.bit false]) 8 [d7x0, d7x1, d7x2]) rfl rfl rfl (j4 + 1) (hI.fuel1 hne) _ _ _ _ _ _ hs156.rd hs156.cur hs156.nb hs156.nF).mono ?_
      intro e w157 hp158
      rcases hrun159 : run E.c f (.received (splice (splice (splice (stmt0 p) 0 [.num 6]) 6 [.bit false]) 8 [d7x0, d7x1, d7x2])) (j4 + 1) with m | ⟨d163, j160⟩
      · rw [hrun159] at hp158
        obtain rfl := hp158.1
        rw [hI.eq, hrun159]
        exact ⟨rfl, hs156.wholeBad hp158⟩
      rw [hrun159] at hp158
      obtain rfl := hp158.1
      obtain ⟨F161, hs162⟩ := hs156.whole hp158
      replace hI : Is (.ok (d163, j160)) R := by rw [hrun159] at hI; exact hI
      clear hrun159
      go_wp2_with fail
      go_returns
      rw [hI.eq]
      exact hs162.done
    have hbh143 : (E.c.keyAt (j4) == [63]) = false := beq_eq_false_iff_ne.2 h143
    rcases Decidable.em (E.c.keyAt (j4) = [63, 63]) with h164 | h164
    · have hbh164 : (E.c.keyAt (j4) == [63, 63]) = true := beq_iff_eq.2 h164
      replace hI := hI.pos (.inr h164)
      have Hh164 : Hid (E.c.keyAt (j4) = [63, 63]) := h164
      clear h164
      have heq : (E.c.keyAt (j4) == [63, 63]) = true := by rw [Hh164.out]; rfl
      rw [show decide (E.c.keyAt (j4) = [63, 63]) = true from by rw [Hh164.out]; rfl] at hI
      have c165 := hsp.rd.c2
      have f166 := hsp.rd.f2
      have hsm167 := E.small
      have hlt168 : j4 < E.c.T.length := Cx.lt_of_key Hh164.out (by decide)
      obtain ⟨v169, c170, _⟩ := hsp.cur.cell 0 _ rfl
      simp only [Nat.add_zero] at c170
      have fz171 := hsp.cur.free (o)
      obtain ⟨v172, c173, _⟩ := hsp.cur.cell 6 _ rfl
      have fz174 := hsp.cur.free (o + 6)
      go_wp2_with fail
      have hs175 := hsp.inc hlt168
      have hs176 := hs175.set0 (by decide) (.int .i64 6) (.num 6) (fun _ => .num _ _)
      have hs177 := hs176.set 6 (by decide) (.bool true) (.bit true) (fun _ => .bit _ _)
      refine (ih.received (splice (splice (splice (stmt0 p) 0 [.num 6]) 6 [.bit true]) 8 [d7x0, d7x1, d7x2]) rfl rfl rfl (j4 + 1) (hI.fuel1 hne) _ _ _ _ _ _ hs177.rd hs177.cur hs177.nb hs177.nF).mono ?_
      intro e w178 hp179
      rcases hrun180 : run E.c f (.received (splice (splice (splice (stmt0 p) 0 [.num 6]) 6 [.bit true]) 8 [d7x0, d7x1, d7x2])) (j4 + 1) with m | ⟨d184, j181⟩
      · rw [hrun180] at hp179
        obtain rfl := hp179.1
        rw [hI.eq, hrun180]
        exact ⟨rfl, hs177.wholeBad hp179⟩
      rw [hrun180] at hp179
      obtain rfl := hp179.1
      obtain ⟨F182, hs183⟩ := hs177.whole hp179
      replace hI : Is (.ok (d184, j181)) R := by rw [hrun180] at hI; exact hI
      clear hrun180
      go_wp2_with fail
      go_returns
      rw [hI.eq]
      exact hs183.done
    have hbh164 : (E.c.keyAt (j4) == [63, 63]) = false := beq_eq_false_iff_ne.2 h164
    replace hI := hI.neg (by simp only [h143, h164, or_self, not_false_eq_true])
    obtain ⟨v185, c186, _⟩ := hsp.cur.cell 0 _ rfl
    have fz187 := hsp.cur.free (o)
    simp only [Nat.add_zero] at c186
    obtain ⟨v188, c189, _⟩ := hsp.cur.cell 8 _ rfl
    have fz190 := hsp.cur.free (o + 8)
    obtain ⟨v191, c192, _⟩ := hsp.cur.cell 9 _ rfl
    have fz193 := hsp.cur.free (o + 9)
    obtain ⟨v194, c195, _⟩ := hsp.cur.cell 10 _ rfl
    have fz196 := hsp.cur.free (o + 10)
    go_wp2_with fail
    have hsb := hsp.back (.int .i64 ((j4 : Int) + 1)) i hiT
    have hs197 := hsb.set0 (by decide) (.int .i64 2) (.num 2) (fun _ => .num _ _)
    have hs198 := hs197.set 8 (by decide) (.slice none 0 0) (.row .str []) (fun _ => .nil _ _)
    have hs199 := hs198.set 9 (by decide) (.slice none 0 0) (.row .ast []) (fun _ => .nil _ _)
    have hs200 := hs199.set 10 (by decide) (.slice none 0 0) (.row .bool []) (fun _ => .nil _ _)
    obtain ⟨Fi208, hat209, hown210, hok211, hbad212⟩ := hs200.call 11 9 (by decide)
    refine (ih.expr (i) (hI.fuel hne) _ Fi208 _ _ _ (o + 11) hs200.rd hat209 hs200.nb hown210).mono ?_
    intro e w201 hp202
    rcases hrun203 : run E.c f .expr (i) with m | ⟨d207, j204⟩
    · rw [hrun203] at hp202
      obtain rfl := hp202.1
      rw [hI.err hrun203]
      exact ⟨rfl, hbad212 _ _ _ hp202⟩
    rw [hrun203] at hp202
    obtain rfl := hp202.1
    obtain ⟨d207x0, d207x1, d207x2, d207x3, d207x4, d207x5, d207x6, d207x7, d207x8, rfl⟩ := len9 hp202.2.2.1
    obtain ⟨F205, hs206⟩ := hok211 _ _ _ _ hp202
    replace hI := hI.ok hrun203
    clear hrun203
    go_wp2_with fail
    go_returns
    rw [hI.eq]
    exact hs206.done

end Go.Proofs.YthmdgbmodgfcmaaGreatDoor
/-
  What the reader's received does.
-/
namespace Go.Proofs.YthmdgbmodgfcmaaGreatDoor
open Go.RowKit

set_option maxHeartbeats 4000000 in
theorem received_does (E : Env) (f : Nat) (ih : Sp E f) : ∀ s : List D, s.length = 28 → s[7]? = some (.bit false) → s[21]? = some (.row .arg []) → Rds E (f + 1) 157 s (.received s) := by
  intro s hs1 hs7 hs21 i hne w F b t N o hr ha hb hF
  have hs0 := St.start hr ha hb hF
  rw [hs1] at hs0 ⊢
  obtain ⟨R, hI, hR⟩ := Is.start (run E.c (f + 1) (.received s) i)
  rw [hR] at hne ⊢
  clear hR hr ha hF
  rw [run_received] at hI
  have hl := strOfL_toList
  have hbr : ¬ b = E.rb := fun e => hb (.inl e)
  have hbr' : ¬ E.rb = b := fun e => hb (.inl e.symm)
  have hmf : ∀ (fn : Fn) (first cap : Array Value) (w : World), (Instr.makeFunc fn first cap).run Tryz.prog w = .ok (.func fn first cap) w := fun _ _ _ _ => rfl
  obtain ⟨x0, x1, x2, x3, x4, x5, x6, x7, x8, x9, x10, x11, x12, x13, x14, x15, x16, x17, x18, x19, x20, x21, x22, x23, x24, x25, x26, x27, rfl⟩ := len28 hs1
  obtain rfl : x7 = .bit false := Option.some.inj hs7
  obtain rfl : x21 = .row .arg [] := Option.some.inj hs21
  go_enter Tryz.func157, Tryz.ntmps157
  go_wp2_with fail
  rcases Decidable.em (E.c.keyAt (i) = [60]) with h1 | h1
  · refine (take_yes E (i) _ hs0.rd [60] h1 (by decide)).mono ?_
    rintro e w2 ⟨rfl, hr3, hm4⟩
    have hs5 := hs0.goes hr3 hm4
    replace hI := hI.pos h1
    obtain ⟨v6, c7, _⟩ := hs5.cur.cell 7 _ rfl
    have fz8 := hs5.cur.free (o + 7)
    go_wp2_with fail
    have hs9 := hs5.set 7 (by decide) (.bool true) (.bit true) (fun _ => .bit _ _)
    obtain ⟨Fi17, hat18, hown19, hok20, hbad21⟩ := hs9.call 21 1 (by decide)
    refine (ih.msgArg (i + 1) (hI.fuel hne) _ Fi17 _ _ _ (o + 21) hs9.rd hat18 hs9.nb hown19).mono ?_
    intro e w10 hp11
    rcases hrun12 : run E.c f (.message .arg .arg) (i + 1) with m | ⟨d16, j13⟩
    · rw [hrun12] at hp11
      obtain rfl := hp11.1
      rw [hI.err hrun12]
      exact ⟨rfl, hbad21 _ _ _ hp11⟩
    rw [hrun12] at hp11
    obtain rfl := hp11.1
    obtain ⟨d16x0, rfl⟩ := len1 hp11.2.2.1
    obtain ⟨F14, hs15⟩ := hok20 _ _ _ _ hp11
    replace hI := hI.ok hrun12
    clear hrun12
    have cK := hs15.cur.bit 7 rfl
    go_wp2_with fail
    rcases (Decidable.em (E.c.keyAt (j13) = [62])).symm with h22 | h22
    · refine (need_no E (j13) _ hs15.rd [62] h22).mono ?_
      rintro e w23 ⟨rfl, hm25⟩
      rw [hI.nno h22]
      exact ⟨rfl, hs15.bad hm25 _⟩
    refine (need_yes E (j13) _ hs15.rd [62] h22 (by decide)).mono ?_
    rintro e w23 ⟨rfl, hr24, hm25⟩
    have hs26 := hs15.goes hr24 hm25
    replace hI := hI.nyes h22
    go_wp2_with fail
    go_returns
    rw [hI.eq]
    exact hs26.done
  · refine (take_no E (i) _ hs0.rd [60] h1).mono ?_
    rintro e w2 ⟨rfl, hm4⟩
    have hs5 := hs0.same hm4
    replace hI := hI.neg h1
    obtain ⟨v27, c28, _⟩ := hs5.cur.cell 7 _ rfl
    have fz29 := hs5.cur.free (o + 7)
    go_wp2_with fail
    have hs30 := hs5.set 7 (by decide) (.bool false) (.bit false) (fun _ => .bit _ _)
    obtain ⟨Fi38, hat39, hown40, hok41, hbad42⟩ := hs30.call 21 1 (by decide)
    refine (ih.msgArg (i) (hI.fuel hne) _ Fi38 _ _ _ (o + 21) hs30.rd hat39 hs30.nb hown40).mono ?_
    intro e w31 hp32
    rcases hrun33 : run E.c f (.message .arg .arg) (i) with m | ⟨d37, j34⟩
    · rw [hrun33] at hp32
      obtain rfl := hp32.1
      rw [hI.err hrun33]
      exact ⟨rfl, hbad42 _ _ _ hp32⟩
    rw [hrun33] at hp32
    obtain rfl := hp32.1
    obtain ⟨d37x0, rfl⟩ := len1 hp32.2.2.1
    obtain ⟨F35, hs36⟩ := hok41 _ _ _ _ hp32
    replace hI := hI.ok hrun33
    clear hrun33
    have cK := hs36.cur.bit 7 rfl
    go_wp2_with fail
    go_returns
    rw [hI.eq]
    exact hs36.done

end Go.Proofs.YthmdgbmodgfcmaaGreatDoor
/-
  What the reader's unit does.
-/
namespace Go.Proofs.YthmdgbmodgfcmaaGreatDoor
open Go.RowKit

set_option maxHeartbeats 4000000 in
theorem unit_does (E : Env) (f : Nat) (ih : Sp E f) : Rds E (f + 1) 34 zUnit .unit := by
  intro i hne w F b t N o hr ha hb hF
  have hs0 : St E w F b t N o 21 w F i zUnit := St.start hr ha hb hF
  obtain ⟨R, hI, hR⟩ := Is.start (run E.c (f + 1) .unit i)
  show Calls _ _ _ _ (Post E F b t N o 21 w _)
  rw [hR] at hne ⊢
  clear hR hr ha hF
  rw [run_unit] at hI
  have hl := strOfL_toList
  have hbr : ¬ b = E.rb := fun e => hb (.inl e)
  have hbr' : ¬ E.rb = b := fun e => hb (.inl e.symm)
  have hmf : ∀ (fn : Fn) (first cap : Array Value) (w : World), (Instr.makeFunc fn first cap).run Tryz.prog w = .ok (.func fn first cap) w := fun _ _ _ _ => rfl
  go_enter Tryz.func34, Tryz.ntmps34
  go_wp2_with fail
  refine (place_any E (i) _ hs0.rd).mono ?_
  rintro e w1 ⟨rfl, hm2⟩
  have hs3 := hs0.same hm2
  obtain ⟨v4, c5, _⟩ := hs3.cur.cell 1 _ rfl
  have fz6 := hs3.cur.free (o + 1)
  go_wp2_with fail
  have hs7 := hs3.set 1 (by decide) (.int .i64 (E.c.place (i) : Nat)) (.num (E.c.place (i) : Nat)) (fun _ => .num _ _)
  refine (key_any E (i) _ hs7.rd 0 (i) (by omega) (by omega)).mono ?_
  rintro e w8 ⟨rfl, hm9⟩
  have hs10 := hs7.same hm9
  rcases Decidable.em (E.c.keyAt (i) = [116, 121, 112, 101, 100, 101, 102]) with h11 | h11
  · have hbh11 : (E.c.keyAt (i) == [116, 121, 112, 101, 100, 101, 102]) = true := beq_iff_eq.2 h11
    replace hI := hI.pos h11
    have Hh11 : Hid (E.c.keyAt (i) = [116, 121, 112, 101, 100, 101, 102]) := h11
    clear h11
    go_wp2_with fail
    refine (ih.typedef (E.c.place i) (i) (hI.fuel1 hne) _ _ _ _ _ _ hs10.rd hs10.cur hs10.nb hs10.nF).mono ?_
    intro e w12 hp13
    rcases hrun14 : run E.c f (.typedef (splice zUnit 1 [.num ((E.c.place i : Nat) : Int)])) (i) with m | ⟨d18, j15⟩
    · rw [hrun14] at hp13
      obtain rfl := hp13.1
      rw [hI.eq, hrun14]
      exact ⟨rfl, hs10.wholeBad hp13⟩
    rw [hrun14] at hp13
    obtain rfl := hp13.1
    obtain ⟨F16, hs17⟩ := hs10.whole hp13
    replace hI : Is (.ok (d18, j15)) R := by rw [hrun14] at hI; exact hI
    clear hrun14
    go_wp2_with fail
    go_returns
    rw [hI.eq]
    exact hs17.done
  have hbh11 : (E.c.keyAt (i) == [116, 121, 112, 101, 100, 101, 102]) = false := beq_eq_false_iff_ne.2 h11
  replace hI := hI.neg h11
  rcases Decidable.em (E.c.keyAt (i) = [97, 99, 116, 105, 118, 101]) with h19 | h19
  · have hbh19 : (E.c.keyAt (i) == [97, 99, 116, 105, 118, 101]) = true := beq_iff_eq.2 h19
    replace hI := hI.pos (.inl h19)
    have Hh19 : Hid (E.c.keyAt (i) = [97, 99, 116, 105, 118, 101]) := h19
    clear h19
    go_wp2_with fail
    refine (ih.proctype (E.c.place i) (i) (hI.fuel1 hne) _ _ _ _ _ _ hs10.rd hs10.cur hs10.nb hs10.nF).mono ?_
    intro e w20 hp21
    rcases hrun22 : run E.c f (.proctype (splice zUnit 1 [.num ((E.c.place i : Nat) : Int)])) (i) with m | ⟨d26, j23⟩
    · rw [hrun22] at hp21
      obtain rfl := hp21.1
      rw [hI.eq, hrun22]
      exact ⟨rfl, hs10.wholeBad hp21⟩
    rw [hrun22] at hp21
    obtain rfl := hp21.1
    obtain ⟨F24, hs25⟩ := hs10.whole hp21
    replace hI : Is (.ok (d26, j23)) R := by rw [hrun22] at hI; exact hI
    clear hrun22
    go_wp2_with fail
    go_returns
    rw [hI.eq]
    exact hs25.done
  have hbh19 : (E.c.keyAt (i) == [97, 99, 116, 105, 118, 101]) = false := beq_eq_false_iff_ne.2 h19
  rcases Decidable.em (E.c.keyAt (i) = [112, 114, 111, 99, 116, 121, 112, 101]) with h27 | h27
  · have hbh27 : (E.c.keyAt (i) == [112, 114, 111, 99, 116, 121, 112, 101]) = true := beq_iff_eq.2 h27
    replace hI := hI.pos (.inr h27)
    have Hh27 : Hid (E.c.keyAt (i) = [112, 114, 111, 99, 116, 121, 112, 101]) := h27
    clear h27
    go_wp2_with fail
    refine (ih.proctype (E.c.place i) (i) (hI.fuel1 hne) _ _ _ _ _ _ hs10.rd hs10.cur hs10.nb hs10.nF).mono ?_
    intro e w28 hp29
    rcases hrun30 : run E.c f (.proctype (splice zUnit 1 [.num ((E.c.place i : Nat) : Int)])) (i) with m | ⟨d34, j31⟩
    · rw [hrun30] at hp29
      obtain rfl := hp29.1
      rw [hI.eq, hrun30]
      exact ⟨rfl, hs10.wholeBad hp29⟩
    rw [hrun30] at hp29
    obtain rfl := hp29.1
    obtain ⟨F32, hs33⟩ := hs10.whole hp29
    replace hI : Is (.ok (d34, j31)) R := by rw [hrun30] at hI; exact hI
    clear hrun30
    go_wp2_with fail
    go_returns
    rw [hI.eq]
    exact hs33.done
  have hbh27 : (E.c.keyAt (i) == [112, 114, 111, 99, 116, 121, 112, 101]) = false := beq_eq_false_iff_ne.2 h27
  replace hI := hI.neg (by simp only [h19, h27, or_self, not_false_eq_true])
  rcases Decidable.em (E.c.keyAt (i) = [105, 110, 105, 116]) with h35 | h35
  · have hbh35 : (E.c.keyAt (i) == [105, 110, 105, 116]) = true := beq_iff_eq.2 h35
    replace hI := hI.pos h35
    have Hh35 : Hid (E.c.keyAt (i) = [105, 110, 105, 116]) := h35
    clear h35
    have c36 := hs10.rd.c2
    have f37 := hs10.rd.f2
    have hsm38 := E.small
    have hlt39 : i < E.c.T.length := Cx.lt_of_key Hh35.out (by decide)
    obtain ⟨v40, c41, _⟩ := hs10.cur.cell 0 _ rfl
    simp only [Nat.add_zero] at c41
    have fz42 := hs10.cur.free (o)
    go_wp2_with fail
    have hs43 := hs10.inc hlt39
    have hs44 := hs43.set0 (by decide) (.int .i64 5) (.num 5) (fun _ => .num _ _)
    obtain ⟨Fi52, hat53, hown54, hok55, hbad56⟩ := hs44.call 20 1 (by decide)
    refine (ih.body (i + 1) (hI.fuel hne) _ Fi52 _ _ _ (o + 20) hs44.rd hat53 hs44.nb hown54).mono ?_
    intro e w45 hp46
    rcases hrun47 : run E.c f .body (i + 1) with m | ⟨d51, j48⟩
    · rw [hrun47] at hp46
      obtain rfl := hp46.1
      rw [hI.err hrun47]
      exact ⟨rfl, hbad56 _ _ _ hp46⟩
    rw [hrun47] at hp46
    obtain rfl := hp46.1
    obtain ⟨d51x0, rfl⟩ := len1 hp46.2.2.1
    obtain ⟨F49, hs50⟩ := hok55 _ _ _ _ hp46
    replace hI := hI.ok hrun47
    clear hrun47
    go_wp2_with fail
    go_returns
    rw [hI.eq]
    exact hs50.done
  have hbh35 : (E.c.keyAt (i) == [105, 110, 105, 116]) = false := beq_eq_false_iff_ne.2 h35
  replace hI := hI.neg h35
  rcases Decidable.em (E.c.keyAt (i) = [110, 101, 118, 101, 114]) with h57 | h57
  · have hbh57 : (E.c.keyAt (i) == [110, 101, 118, 101, 114]) = true := beq_iff_eq.2 h57
    replace hI := hI.pos h57
    have Hh57 : Hid (E.c.keyAt (i) = [110, 101, 118, 101, 114]) := h57
    clear h57
    have c58 := hs10.rd.c2
    have f59 := hs10.rd.f2
    have hsm60 := E.small
    have hlt61 : i < E.c.T.length := Cx.lt_of_key Hh57.out (by decide)
    obtain ⟨v62, c63, _⟩ := hs10.cur.cell 0 _ rfl
    simp only [Nat.add_zero] at c63
    have fz64 := hs10.cur.free (o)
    go_wp2_with fail
    have hs65 := hs10.inc hlt61
    have hs66 := hs65.set0 (by decide) (.int .i64 6) (.num 6) (fun _ => .num _ _)
    obtain ⟨Fi74, hat75, hown76, hok77, hbad78⟩ := hs66.call 20 1 (by decide)
    refine (ih.body (i + 1) (hI.fuel hne) _ Fi74 _ _ _ (o + 20) hs66.rd hat75 hs66.nb hown76).mono ?_
    intro e w67 hp68
    rcases hrun69 : run E.c f .body (i + 1) with m | ⟨d73, j70⟩
    · rw [hrun69] at hp68
      obtain rfl := hp68.1
      rw [hI.err hrun69]
      exact ⟨rfl, hbad78 _ _ _ hp68⟩
    rw [hrun69] at hp68
    obtain rfl := hp68.1
    obtain ⟨d73x0, rfl⟩ := len1 hp68.2.2.1
    obtain ⟨F71, hs72⟩ := hok77 _ _ _ _ hp68
    replace hI := hI.ok hrun69
    clear hrun69
    go_wp2_with fail
    go_returns
    rw [hI.eq]
    exact hs72.done
  have hbh57 : (E.c.keyAt (i) == [110, 101, 118, 101, 114]) = false := beq_eq_false_iff_ne.2 h57
  replace hI := hI.neg h57
  rcases Decidable.em (E.c.keyAt (i) = [105, 110, 108, 105, 110, 101]) with h79 | h79
  · have hbh79 : (E.c.keyAt (i) == [105, 110, 108, 105, 110, 101]) = true := beq_iff_eq.2 h79
    replace hI := hI.pos h79
    have Hh79 : Hid (E.c.keyAt (i) = [105, 110, 108, 105, 110, 101]) := h79
    clear h79
    go_wp2_with fail
    refine (ih.inline (E.c.place i) (i) (hI.fuel1 hne) _ _ _ _ _ _ hs10.rd hs10.cur hs10.nb hs10.nF).mono ?_
    intro e w80 hp81
    rcases hrun82 : run E.c f (.inline (splice zUnit 1 [.num ((E.c.place i : Nat) : Int)])) (i) with m | ⟨d86, j83⟩
    · rw [hrun82] at hp81
      obtain rfl := hp81.1
      rw [hI.eq, hrun82]
      exact ⟨rfl, hs10.wholeBad hp81⟩
    rw [hrun82] at hp81
    obtain rfl := hp81.1
    obtain ⟨F84, hs85⟩ := hs10.whole hp81
    replace hI : Is (.ok (d86, j83)) R := by rw [hrun82] at hI; exact hI
    clear hrun82
    go_wp2_with fail
    go_returns
    rw [hI.eq]
    exact hs85.done
  have hbh79 : (E.c.keyAt (i) == [105, 110, 108, 105, 110, 101]) = false := beq_eq_false_iff_ne.2 h79
  replace hI := hI.neg h79
  rcases Decidable.em (E.c.keyAt (i) = [108, 116, 108]) with h87 | h87
  · have hbh87 : (E.c.keyAt (i) == [108, 116, 108]) = true := beq_iff_eq.2 h87
    replace hI := hI.pos h87
    have Hh87 : Hid (E.c.keyAt (i) = [108, 116, 108]) := h87
    clear h87
    go_wp2_with fail
    refine (ih.ltl ⟨_, Hh87.out⟩ (E.c.place i) (i) (hI.fuel1 hne) _ _ _ _ _ _ hs10.rd hs10.cur hs10.nb hs10.nF).mono ?_
    intro e w88 hp89
    rcases hrun90 : run E.c f (.ltl (splice zUnit 1 [.num ((E.c.place i : Nat) : Int)])) (i) with m | ⟨d94, j91⟩
    · rw [hrun90] at hp89
      obtain rfl := hp89.1
      rw [hI.eq, hrun90]
      exact ⟨rfl, hs10.wholeBad hp89⟩
    rw [hrun90] at hp89
    obtain rfl := hp89.1
    obtain ⟨F92, hs93⟩ := hs10.whole hp89
    replace hI : Is (.ok (d94, j91)) R := by rw [hrun90] at hI; exact hI
    clear hrun90
    go_wp2_with fail
    go_returns
    rw [hI.eq]
    exact hs93.done
  have hbh87 : (E.c.keyAt (i) == [108, 116, 108]) = false := beq_eq_false_iff_ne.2 h87
  replace hI := hI.neg h87
  go_wp2_with fail
  refine (ih.mtypeOrDecl (E.c.place i) (i) (hI.fuel1 hne) _ _ _ _ _ _ hs10.rd hs10.cur hs10.nb hs10.nF).mono ?_
  intro e w95 hp96
  rcases hrun97 : run E.c f (.mtypeOrDecl (splice zUnit 1 [.num ((E.c.place i : Nat) : Int)])) (i) with m | ⟨d101, j98⟩
  · rw [hrun97] at hp96
    obtain rfl := hp96.1
    rw [hI.eq, hrun97]
    exact ⟨rfl, hs10.wholeBad hp96⟩
  rw [hrun97] at hp96
  obtain rfl := hp96.1
  obtain ⟨F99, hs100⟩ := hs10.whole hp96
  replace hI : Is (.ok (d101, j98)) R := by rw [hrun97] at hI; exact hI
  clear hrun97
  go_wp2_with fail
  go_returns
  rw [hI.eq]
  exact hs100.done

end Go.Proofs.YthmdgbmodgfcmaaGreatDoor
/-
  What the reader's mtypeOrDecl does.
-/
namespace Go.Proofs.YthmdgbmodgfcmaaGreatDoor
open Go.RowKit

set_option maxHeartbeats 4000000 in
theorem mtypeOrDecl_does (E : Env) (f : Nat) (ih : Sp E f) : ∀ p : Nat, Rds E (f + 1) 60 (unit0 p) (.mtypeOrDecl (unit0 p)) := by
  intro p i hne w F b t N o hr ha hb hF
  have hs0 : St E w F b t N o 21 w F i (unit0 p) := St.start hr ha hb hF
  obtain ⟨R, hI, hR⟩ := Is.start (run E.c (f + 1) (.mtypeOrDecl (unit0 p)) i)
  show Calls _ _ _ _ (Post E F b t N o 21 w _)
  rw [hR] at hne ⊢
  clear hR hr ha hF
  rw [run_mtypeOrDecl] at hI
  have hl := strOfL_toList
  have hbr : ¬ b = E.rb := fun e => hb (.inl e)
  have hbr' : ¬ E.rb = b := fun e => hb (.inl e.symm)
  have hmf : ∀ (fn : Fn) (first cap : Array Value) (w : World), (Instr.makeFunc fn first cap).run Tryz.prog w = .ok (.func fn first cap) w := fun _ _ _ _ => rfl
  go_enter Tryz.func60, Tryz.ntmps60
  go_wp2_with fail
  refine (is_any E (i) _ hs0.rd [109, 116, 121, 112, 101]).mono ?_
  rintro e wa ⟨rfl, hma⟩
  have hsa := hs0.same hma
  rcases (Decidable.em (E.c.keyAt (i) = [109, 116, 121, 112, 101])).symm with ha | ha
  · rw [decide_eq_false ha]
    replace hI := hI.neg (fun hx => ha hx.1)
    obtain ⟨v1, c2, _⟩ := hsa.cur.cell 0 _ rfl
    simp only [Nat.add_zero] at c2
    have fz3 := hsa.cur.free (o)
    go_wp2_with fail
    have hs4 := hsa.set0 (by decide) (.int .i64 2) (.num 2) (fun _ => .num _ _)
    obtain ⟨Fi12, hat13, hown14, hok15, hbad16⟩ := hs4.call 15 4 (by decide)
    refine (ih.decl (i) (hI.fuel hne) _ Fi12 _ _ _ (o + 15) hs4.rd hat13 hs4.nb hown14).mono ?_
    intro e w5 hp6
    rcases hrun7 : run E.c f .decl (i) with m | ⟨d11, j8⟩
    · rw [hrun7] at hp6
      obtain rfl := hp6.1
      rw [hI.err hrun7]
      exact ⟨rfl, hbad16 _ _ _ hp6⟩
    rw [hrun7] at hp6
    obtain rfl := hp6.1
    obtain ⟨d11x0, d11x1, d11x2, d11x3, rfl⟩ := len4 hp6.2.2.1
    obtain ⟨F9, hs10⟩ := hok15 _ _ _ _ hp6
    replace hI := hI.ok hrun7
    clear hrun7
    go_wp2_with fail
    go_returns
    rw [hI.eq]
    exact hs10.done
  rw [decide_eq_true ha]
  go_wp2_with fail
  refine (key_any E (i) _ hsa.rd 1 (i + 1) (by omega) (by omega)).mono ?_
  rintro e wb ⟨rfl, hmb⟩
  have hsb := hsa.same hmb
  have HA : Hid (E.c.keyAt (i) = [109, 116, 121, 112, 101]) := ha
  clear ha
  rcases Decidable.em (E.c.keyAt (i + 1) = [61]) with hb1 | hb1
  · have hbb : (E.c.keyAt (i + 1) == [61]) = true := beq_iff_eq.2 hb1
    replace hI := hI.pos ⟨HA.out, .inl hb1⟩
    rw [if_pos hb1] at hI
    have HB : Hid (E.c.keyAt (i + 1) = [61]) := hb1
    clear hb1
    obtain ⟨v17, c18, _⟩ := hsb.cur.cell 0 _ rfl
    simp only [Nat.add_zero] at c18
    have fz19 := hsb.cur.free (o)
    go_wp2_with fail
    have hs20 := hsb.set0 (by decide) (.int .i64 1) (.num 1) (fun _ => .num _ _)
    refine (need_yes E (i) _ hs20.rd [109, 116, 121, 112, 101] HA.out (by decide)).mono ?_
    rintro e w21 ⟨rfl, hr22, hm23⟩
    have hs24 := hs20.goes hr22 hm23
    go_wp2_with fail
    refine (take_yes E (i + 1) _ hs24.rd [61] HB.out (by decide)).mono ?_
    rintro e w25 ⟨rfl, hr26, hm27⟩
    have hs28 := hs24.goes hr26 hm27
    go_wp2_with fail
    obtain ⟨Fi36, hat37, hown38, hok39, hbad40⟩ := hs28.call 4 1 (by decide)
    refine (ih.inBrStr (i + 2) (hI.fuel hne) _ Fi36 _ _ _ (o + 4) hs28.rd hat37 hs28.nb hown38).mono ?_
    intro e w29 hp30
    rcases hrun31 : run E.c f (.inBraces .name .str) (i + 2) with m | ⟨d35, j32⟩
    · rw [hrun31] at hp30
      obtain rfl := hp30.1
      rw [hI.err hrun31]
      exact ⟨rfl, hbad40 _ _ _ hp30⟩
    rw [hrun31] at hp30
    obtain rfl := hp30.1
    obtain ⟨d35x0, rfl⟩ := len1 hp30.2.2.1
    obtain ⟨F33, hs34⟩ := hok39 _ _ _ _ hp30
    replace hI := hI.ok hrun31
    clear hrun31
    go_wp2_with fail
    go_returns
    rw [hI.eq]
    exact hs34.done
  have hbb : (E.c.keyAt (i + 1) == [61]) = false := beq_eq_false_iff_ne.2 hb1
  go_wp2_with fail
  refine (key_any E (i) _ hsb.rd 1 (i + 1) (by omega) (by omega)).mono ?_
  rintro e wc ⟨rfl, hmc⟩
  have hsc := hsb.same hmc
  rcases Decidable.em (E.c.keyAt (i + 1) = [123]) with hb2 | hb2
  · have hbc : (E.c.keyAt (i + 1) == [123]) = true := beq_iff_eq.2 hb2
    replace hI := hI.pos ⟨HA.out, .inr hb2⟩
    rw [if_neg hb1] at hI
    have HN : Hid (¬ E.c.keyAt (i + 1) = [61]) := hb1
    clear hb1 hb2
    obtain ⟨v41, c42, _⟩ := hsc.cur.cell 0 _ rfl
    simp only [Nat.add_zero] at c42
    have fz43 := hsc.cur.free (o)
    go_wp2_with fail
    have hs44 := hsc.set0 (by decide) (.int .i64 1) (.num 1) (fun _ => .num _ _)
    refine (need_yes E (i) _ hs44.rd [109, 116, 121, 112, 101] HA.out (by decide)).mono ?_
    rintro e w45 ⟨rfl, hr46, hm47⟩
    have hs48 := hs44.goes hr46 hm47
    go_wp2_with fail
    refine (take_no E (i + 1) _ hs48.rd [61] HN.out).mono ?_
    rintro e w49 ⟨rfl, hm50⟩
    have hs51 := hs48.same hm50
    go_wp2_with fail
    obtain ⟨Fi59, hat60, hown61, hok62, hbad63⟩ := hs51.call 4 1 (by decide)
    refine (ih.inBrStr (i + 1) (hI.fuel hne) _ Fi59 _ _ _ (o + 4) hs51.rd hat60 hs51.nb hown61).mono ?_
    intro e w52 hp53
    rcases hrun54 : run E.c f (.inBraces .name .str) (i + 1) with m | ⟨d58, j55⟩
    · rw [hrun54] at hp53
      obtain rfl := hp53.1
      rw [hI.err hrun54]
      exact ⟨rfl, hbad63 _ _ _ hp53⟩
    rw [hrun54] at hp53
    obtain rfl := hp53.1
    obtain ⟨d58x0, rfl⟩ := len1 hp53.2.2.1
    obtain ⟨F56, hs57⟩ := hok62 _ _ _ _ hp53
    replace hI := hI.ok hrun54
    clear hrun54
    go_wp2_with fail
    go_returns
    rw [hI.eq]
    exact hs57.done
  have hbc : (E.c.keyAt (i + 1) == [123]) = false := beq_eq_false_iff_ne.2 hb2
  replace hI := hI.neg (fun hx => hx.2.elim hb1 hb2)
  obtain ⟨v64, c65, _⟩ := hsc.cur.cell 0 _ rfl
  simp only [Nat.add_zero] at c65
  have fz66 := hsc.cur.free (o)
  go_wp2_with fail
  have hs67 := hsc.set0 (by decide) (.int .i64 2) (.num 2) (fun _ => .num _ _)
  obtain ⟨Fi75, hat76, hown77, hok78, hbad79⟩ := hs67.call 15 4 (by decide)
  refine (ih.decl (i) (hI.fuel hne) _ Fi75 _ _ _ (o + 15) hs67.rd hat76 hs67.nb hown77).mono ?_
  intro e w68 hp69
  rcases hrun70 : run E.c f .decl (i) with m | ⟨d74, j71⟩
  · rw [hrun70] at hp69
    obtain rfl := hp69.1
    rw [hI.err hrun70]
    exact ⟨rfl, hbad79 _ _ _ hp69⟩
  rw [hrun70] at hp69
  obtain rfl := hp69.1
  obtain ⟨d74x0, d74x1, d74x2, d74x3, rfl⟩ := len4 hp69.2.2.1
  obtain ⟨F72, hs73⟩ := hok78 _ _ _ _ hp69
  replace hI := hI.ok hrun70
  clear hrun70
  go_wp2_with fail
  go_returns
  rw [hI.eq]
  exact hs73.done

end Go.Proofs.YthmdgbmodgfcmaaGreatDoor
/-
  What the reader's typedef does.
-/
namespace Go.Proofs.YthmdgbmodgfcmaaGreatDoor
open Go.RowKit

set_option maxHeartbeats 4000000 in
theorem typedef_does (E : Env) (f : Nat) (ih : Sp E f) : ∀ p : Nat, Rds E (f + 1) 55 (unit0 p) (.typedef (unit0 p)) := by
  intro p i hne w F b t N o hr ha hb hF
  have hs0 : St E w F b t N o 21 w F i (unit0 p) := St.start hr ha hb hF
  obtain ⟨R, hI, hR⟩ := Is.start (run E.c (f + 1) (.typedef (unit0 p)) i)
  show Calls _ _ _ _ (Post E F b t N o 21 w _)
  rw [hR] at hne ⊢
  clear hR hr ha hF
  rw [run_typedef] at hI
  have hl := strOfL_toList
  have hbr : ¬ b = E.rb := fun e => hb (.inl e)
  have hbr' : ¬ E.rb = b := fun e => hb (.inl e.symm)
  have hmf : ∀ (fn : Fn) (first cap : Array Value) (w : World), (Instr.makeFunc fn first cap).run Tryz.prog w = .ok (.func fn first cap) w := fun _ _ _ _ => rfl
  go_enter Tryz.func55, Tryz.ntmps55
  go_wp2_with fail
  rcases (Decidable.em (E.c.keyAt (i) = [116, 121, 112, 101, 100, 101, 102])).symm with h1 | h1
  · refine (need_no E (i) _ hs0.rd [116, 121, 112, 101, 100, 101, 102] h1).mono ?_
    rintro e w2 ⟨rfl, hm4⟩
    rw [hI.nno h1]
    exact ⟨rfl, hs0.bad hm4 _⟩
  refine (need_yes E (i) _ hs0.rd [116, 121, 112, 101, 100, 101, 102] h1 (by decide)).mono ?_
  rintro e w2 ⟨rfl, hr3, hm4⟩
  have hs5 := hs0.goes hr3 hm4
  replace hI := hI.nyes h1
  obtain ⟨v6, c7, _⟩ := hs5.cur.cell 0 _ rfl
  simp only [Nat.add_zero] at c7
  have fz8 := hs5.cur.free (o)
  go_wp2_with fail
  have hs9 := hs5.set0 (by decide) (.int .i64 3) (.num 3) (fun _ => .num _ _)
  obtain ⟨Fi17, hat18, hown19, hok20, hbad21⟩ := hs9.call 2 1 (by decide)
  refine (ih.name [] (i + 1) (hI.fuel hne) _ Fi17 _ _ _ (o + 2) hs9.rd hat18 hs9.nb hown19).mono ?_
  intro e w10 hp11
  rcases hrun12 : run E.c f .name (i + 1) with m | ⟨d16, j13⟩
  · rw [hrun12] at hp11
    obtain rfl := hp11.1
    rw [hI.err hrun12]
    exact ⟨rfl, hbad21 _ _ _ hp11⟩
  rw [hrun12] at hp11
  obtain rfl := hp11.1
  obtain ⟨d16x0, rfl⟩ := len1 hp11.2.2.1
  obtain ⟨F14, hs15⟩ := hok20 _ _ _ _ hp11
  replace hI := hI.ok hrun12
  clear hrun12
  go_wp2_with fail
  rcases (Decidable.em (E.c.keyAt (j13) = [123])).symm with h22 | h22
  · refine (need_no E (j13) _ hs15.rd [123] h22).mono ?_
    rintro e w23 ⟨rfl, hm25⟩
    rw [hI.nno h22]
    exact ⟨rfl, hs15.bad hm25 _⟩
  refine (need_yes E (j13) _ hs15.rd [123] h22 (by decide)).mono ?_
  rintro e w23 ⟨rfl, hr24, hm25⟩
  have hs26 := hs15.goes hr24 hm25
  replace hI := hI.nyes h22
  go_wp2_with fail
  obtain ⟨Fi34, hat35, hown36, hok37, hbad38⟩ := hs26.call 19 1 (by decide)
  refine (ih.decls (j13 + 1) (hI.fuel hne) _ Fi34 _ _ _ (o + 19) hs26.rd hat35 hs26.nb hown36).mono ?_
  intro e w27 hp28
  rcases hrun29 : run E.c f .decls (j13 + 1) with m | ⟨d33, j30⟩
  · rw [hrun29] at hp28
    obtain rfl := hp28.1
    rw [hI.err hrun29]
    exact ⟨rfl, hbad38 _ _ _ hp28⟩
  rw [hrun29] at hp28
  obtain rfl := hp28.1
  obtain ⟨d33x0, rfl⟩ := len1 hp28.2.2.1
  obtain ⟨F31, hs32⟩ := hok37 _ _ _ _ hp28
  replace hI := hI.ok hrun29
  clear hrun29
  go_wp2_with fail
  rcases (Decidable.em (E.c.keyAt (j30) = [125])).symm with h39 | h39
  · refine (need_no E (j30) _ hs32.rd [125] h39).mono ?_
    rintro e w40 ⟨rfl, hm42⟩
    rw [hI.nno h39]
    exact ⟨rfl, hs32.bad hm42 _⟩
  refine (need_yes E (j30) _ hs32.rd [125] h39 (by decide)).mono ?_
  rintro e w40 ⟨rfl, hr41, hm42⟩
  have hs43 := hs32.goes hr41 hm42
  replace hI := hI.nyes h39
  go_wp2_with fail
  go_returns
  rw [hI.eq]
  exact hs43.done

end Go.Proofs.YthmdgbmodgfcmaaGreatDoor
/-
  What the reader's active does.
-/
namespace Go.Proofs.YthmdgbmodgfcmaaGreatDoor
open Go.RowKit

set_option maxHeartbeats 4000000 in
theorem active_does (E : Env) (f : Nat) (ih : Sp E f) : ∀ p : Nat, Rds E (f + 1) 80 (splice (unit0 p) 0 [.num 4]) (.active (splice (unit0 p) 0 [.num 4])) := by
  intro p i hne w F b t N o hr ha hb hF
  have hs0 : St E w F b t N o 21 w F i (splice (unit0 p) 0 [.num 4]) := St.start hr ha hb hF
  obtain ⟨R, hI, hR⟩ := Is.start (run E.c (f + 1) (.active (splice (unit0 p) 0 [.num 4])) i)
  show Calls _ _ _ _ (Post E F b t N o 21 w _)
  rw [hR] at hne ⊢
  clear hR hr ha hF
  rw [run_active] at hI
  have hl := strOfL_toList
  have hbr : ¬ b = E.rb := fun e => hb (.inl e)
  have hbr' : ¬ E.rb = b := fun e => hb (.inl e.symm)
  have hmf : ∀ (fn : Fn) (first cap : Array Value) (w : World), (Instr.makeFunc fn first cap).run Tryz.prog w = .ok (.func fn first cap) w := fun _ _ _ _ => rfl
  go_enter Tryz.func80, Tryz.ntmps80
  obtain ⟨v1, c2, _⟩ := hs0.cur.cell 5 _ rfl
  have fz3 := hs0.cur.free (o + 5)
  go_wp2_with fail
  have hs4 := hs0.set 5 (by decide) (.bool true) (.bit true) (fun _ => .bit _ _)
  refine (is_any E (i) _ hs4.rd [91]).mono ?_
  rintro e w6 ⟨rfl, hm7⟩
  have hs8 := hs4.same hm7
  rcases Decidable.em (E.c.keyAt (i) = [91]) with h5 | h5
  · rw [decide_eq_true h5]
    replace hI := hI.pos h5
    go_wp2_with fail
    obtain ⟨Fi16, hat17, hown18, hok19, hbad20⟩ := hs8.call 6 9 (by decide)
    refine (ih.index (i) (hI.fuel hne) _ Fi16 _ _ _ (o + 6) hs8.rd hat17 hs8.nb hown18).mono ?_
    intro e w9 hp10
    rcases hrun11 : run E.c f .index (i) with m | ⟨d15, j12⟩
    · rw [hrun11] at hp10
      obtain rfl := hp10.1
      rw [hI.err hrun11]
      exact ⟨rfl, hbad20 _ _ _ hp10⟩
    rw [hrun11] at hp10
    obtain rfl := hp10.1
    obtain ⟨d15x0, d15x1, d15x2, d15x3, d15x4, d15x5, d15x6, d15x7, d15x8, rfl⟩ := len9 hp10.2.2.1
    obtain ⟨F13, hs14⟩ := hok19 _ _ _ _ hp10
    replace hI := hI.ok hrun11
    clear hrun11
    go_wp2_with fail
    go_returns
    rw [hI.eq]
    exact hs14.done
  · rw [decide_eq_false h5]
    replace hI := hI.neg h5
    obtain ⟨v21, c22, _⟩ := hs8.cur.cell 6 _ rfl
    have fz23 := hs8.cur.free (o + 6)
    obtain ⟨v24, c25, _⟩ := hs8.cur.cell 7 _ rfl
    have fz26 := hs8.cur.free (o + 7)
    obtain ⟨v27, c28, _⟩ := hs8.cur.cell 8 _ rfl
    have fz29 := hs8.cur.free (o + 8)
    obtain ⟨v30, c31, _⟩ := hs8.cur.cell 9 _ rfl
    have fz32 := hs8.cur.free (o + 9)
    obtain ⟨v33, c34, _⟩ := hs8.cur.cell 10 _ rfl
    have fz35 := hs8.cur.free (o + 10)
    obtain ⟨v36, c37, _⟩ := hs8.cur.cell 11 _ rfl
    have fz38 := hs8.cur.free (o + 11)
    obtain ⟨v39, c40, _⟩ := hs8.cur.cell 12 _ rfl
    have fz41 := hs8.cur.free (o + 12)
    obtain ⟨v42, c43, _⟩ := hs8.cur.cell 13 _ rfl
    have fz44 := hs8.cur.free (o + 13)
    obtain ⟨v45, c46, _⟩ := hs8.cur.cell 14 _ rfl
    have fz47 := hs8.cur.free (o + 14)
    go_wp2_with fail
    have hs48 := hs8.set 6 (by decide) (.int .i64 1) (.num 1) (fun _ => .num _ _)
    have hs49 := hs48.set 7 (by decide) (.int .i64 1) (.num 1) (fun _ => .num _ _)
    have hs50 := hs49.set 8 (by decide) (.string ⟨#[]⟩) (.str []) (fun _ => .str _ _)
    have hs51 := hs50.set 9 (by decide) (.string ⟨#[]⟩) (.str []) (fun _ => .str _ _)
    have hs52 := hs51.set 10 (by decide) (.slice none 0 0) (.row .str []) (fun _ => .nil _ _)
    have hs53 := hs52.set 11 (by decide) (.slice none 0 0) (.row .ast []) (fun _ => .nil _ _)
    have hs54 := hs53.set 12 (by decide) (.slice none 0 0) (.row .bool []) (fun _ => .nil _ _)
    have hs55 := hs54.set 13 (by decide) (.slice none 0 0) (.row .ast []) (fun _ => .nil _ _)
    have hs56 := hs55.set 14 (by decide) (.slice none 0 0) (.row .arg []) (fun _ => .nil _ _)
    go_returns
    rw [hI.eq]
    exact hs56.done

end Go.Proofs.YthmdgbmodgfcmaaGreatDoor
/-
  What the reader's inline does.
-/
namespace Go.Proofs.YthmdgbmodgfcmaaGreatDoor
open Go.RowKit

set_option maxHeartbeats 4000000 in
theorem inline_does (E : Env) (f : Nat) (ih : Sp E f) : ∀ p : Nat, Rds E (f + 1) 58 (unit0 p) (.inline (unit0 p)) := by
  intro p i hne w F b t N o hr ha hb hF
  have hs0 : St E w F b t N o 21 w F i (unit0 p) := St.start hr ha hb hF
  obtain ⟨R, hI, hR⟩ := Is.start (run E.c (f + 1) (.inline (unit0 p)) i)
  show Calls _ _ _ _ (Post E F b t N o 21 w _)
  rw [hR] at hne ⊢
  clear hR hr ha hF
  rw [run_inline] at hI
  have hl := strOfL_toList
  have hbr : ¬ b = E.rb := fun e => hb (.inl e)
  have hbr' : ¬ E.rb = b := fun e => hb (.inl e.symm)
  have hmf : ∀ (fn : Fn) (first cap : Array Value) (w : World), (Instr.makeFunc fn first cap).run Tryz.prog w = .ok (.func fn first cap) w := fun _ _ _ _ => rfl
  go_enter Tryz.func58, Tryz.ntmps58
  go_wp2_with fail
  rcases (Decidable.em (E.c.keyAt (i) = [105, 110, 108, 105, 110, 101])).symm with h1 | h1
  · refine (need_no E (i) _ hs0.rd [105, 110, 108, 105, 110, 101] h1).mono ?_
    rintro e w2 ⟨rfl, hm4⟩
    rw [hI.nno h1]
    exact ⟨rfl, hs0.bad hm4 _⟩
  refine (need_yes E (i) _ hs0.rd [105, 110, 108, 105, 110, 101] h1 (by decide)).mono ?_
  rintro e w2 ⟨rfl, hr3, hm4⟩
  have hs5 := hs0.goes hr3 hm4
  replace hI := hI.nyes h1
  obtain ⟨v6, c7, _⟩ := hs5.cur.cell 0 _ rfl
  simp only [Nat.add_zero] at c7
  have fz8 := hs5.cur.free (o)
  go_wp2_with fail
  have hs9 := hs5.set0 (by decide) (.int .i64 7) (.num 7) (fun _ => .num _ _)
  obtain ⟨Fi17, hat18, hown19, hok20, hbad21⟩ := hs9.call 2 1 (by decide)
  refine (ih.name [] (i + 1) (hI.fuel hne) _ Fi17 _ _ _ (o + 2) hs9.rd hat18 hs9.nb hown19).mono ?_
  intro e w10 hp11
  rcases hrun12 : run E.c f .name (i + 1) with m | ⟨d16, j13⟩
  · rw [hrun12] at hp11
    obtain rfl := hp11.1
    rw [hI.err hrun12]
    exact ⟨rfl, hbad21 _ _ _ hp11⟩
  rw [hrun12] at hp11
  obtain rfl := hp11.1
  obtain ⟨d16x0, rfl⟩ := len1 hp11.2.2.1
  obtain ⟨F14, hs15⟩ := hok20 _ _ _ _ hp11
  replace hI := hI.ok hrun12
  clear hrun12
  go_wp2_with fail
  obtain ⟨Fi29, hat30, hown31, hok32, hbad33⟩ := hs15.call 4 1 (by decide)
  refine (ih.inParStr (j13) (hI.fuel hne) _ Fi29 _ _ _ (o + 4) hs15.rd hat30 hs15.nb hown31).mono ?_
  intro e w22 hp23
  rcases hrun24 : run E.c f (.inParens .name .str) (j13) with m | ⟨d28, j25⟩
  · rw [hrun24] at hp23
    obtain rfl := hp23.1
    rw [hI.err hrun24]
    exact ⟨rfl, hbad33 _ _ _ hp23⟩
  rw [hrun24] at hp23
  obtain rfl := hp23.1
  obtain ⟨d28x0, rfl⟩ := len1 hp23.2.2.1
  obtain ⟨F26, hs27⟩ := hok32 _ _ _ _ hp23
  replace hI := hI.ok hrun24
  clear hrun24
  go_wp2_with fail
  obtain ⟨Fi41, hat42, hown43, hok44, hbad45⟩ := hs27.call 20 1 (by decide)
  refine (ih.body (j25) (hI.fuel hne) _ Fi41 _ _ _ (o + 20) hs27.rd hat42 hs27.nb hown43).mono ?_
  intro e w34 hp35
  rcases hrun36 : run E.c f .body (j25) with m | ⟨d40, j37⟩
  · rw [hrun36] at hp35
    obtain rfl := hp35.1
    rw [hI.err hrun36]
    exact ⟨rfl, hbad45 _ _ _ hp35⟩
  rw [hrun36] at hp35
  obtain rfl := hp35.1
  obtain ⟨d40x0, rfl⟩ := len1 hp35.2.2.1
  obtain ⟨F38, hs39⟩ := hok44 _ _ _ _ hp35
  replace hI := hI.ok hrun36
  clear hrun36
  go_wp2_with fail
  go_returns
  rw [hI.eq]
  exact hs39.done

end Go.Proofs.YthmdgbmodgfcmaaGreatDoor
/-
  How deep trees are: a specification on data, by fuel; trees that are only read.
-/
namespace Go.Proofs.YthmdgbmodgfcmaaGreatDoor
open Go.RowKit

def deps (g : List D → Option Nat) : Nat → List (List D) → Option Nat
  | m, [] => some m
  | m, e :: r => match g e with | some n => deps g (max m n) r | none => none

def rows (g : List D → Option Nat) (t : Ty) : Option D → Option Nat
  | some (.row t' els) => if t' = t ∧ els.length ≤ 1000000 then deps g 0 els else none
  | _ => none

def mx : Option Nat → Option Nat → Option Nat
  | some a, some b => some (max a b)
  | _, _ => none

def up : Option Nat → Option Nat
  | some a => some (1 + a)
  | none => none

/-- How deep cells of a type are. -/
def dep : Nat → Ty → List D → Option Nat
  | 0, _, _ => none
  | f + 1, .ast, ds => match (ds[0]? : Option D) with
    | some (D.num k) => if k = 0 then some 0 else up (mx (mx (rows (dep f .ast) .ast ds[5]?) (rows (dep f .ast) .ast ds[7]?)) (rows (dep f .arg) .arg ds[8]?))
    | _ => none
  | f + 1, .arg, ds => dep f .ast (ds.drop 2)
  | f + 1, .var, ds => mx (dep f .ast (ds.drop 2)) (dep f .ast (ds.drop 12))
  | f + 1, .decl, ds => rows (dep f .var) .var ds[2]?
  | f + 1, .stmts, ds => rows (dep f .stmt) .stmt ds[0]?
  | f + 1, .stmt, ds => up (mx (mx (mx (mx (mx (mx (rows (dep f .ast) .ast ds[9]?) (dep f .ast (ds.drop 11))) (rows (dep f .ast) .ast ds[20]?)) (rows (dep f .arg) .arg ds[21]?)) (dep f .decl (ds.drop 22)))
      (rows (dep f .stmts) .stmts ds[26]?)) (dep f .stmts (ds.drop 27)))
  | f + 1, .unit, ds => mx (mx (mx (dep f .ast (ds.drop 6)) (dep f .decl (ds.drop 15))) (rows (dep f .decl) .decl ds[19]?)) (dep f .stmts (ds.drop 20))
  | _ + 1, _, _ => none

def depUnits (f : Nat) (ds : List D) : Option Nat := rows (dep f .unit) .unit ds[0]?

theorem mx_some {a b : Option Nat} {n : Nat} (h : mx a b = some n) : ∃ x y, a = some x ∧ b = some y ∧ n = max x y := by
  cases a <;> cases b <;> simp [mx] at h
  exact ⟨_, _, rfl, rfl, h.symm⟩
theorem up_some {a : Option Nat} {n : Nat} (h : up a = some n) : ∃ x, a = some x ∧ n = 1 + x := by
  cases a <;> simp [up] at h
  exact ⟨_, rfl, h.symm⟩
theorem rows_some {g : List D → Option Nat} {t : Ty} {d : Option D} {n : Nat} (h : rows g t d = some n) : ∃ els, d = some (.row t els) ∧ els.length ≤ 1000000 ∧ deps g 0 els = some n := by
  unfold rows at h
  split at h
  · split at h
    · rename_i els hc
      exact ⟨els, by rw [hc.1], hc.2, h⟩
    · cases h
  · cases h

theorem deps_le {g : List D → Option Nat} {f : Nat} (hg : ∀ e n, g e = some n → n ≤ f) : ∀ (els : List (List D)) (m n : Nat), m ≤ f → deps g m els = some n → n ≤ f
  | [], m, n, hm, h => by simp [deps] at h; omega
  | e :: r, m, n, hm, h => by
    unfold deps at h
    split at h
    · rename_i q hq
      exact deps_le hg r _ n (by have := hg e q hq; omega) h
    · cases h

theorem dep_le : ∀ (f : Nat) (t : Ty) (ds : List D) (n : Nat), dep f t ds = some n → n ≤ f
  | 0, _, _, _, h => by simp [dep] at h
  | f + 1, t, ds, n, h => by
    have hr : ∀ (t t' : Ty) (d : Option D) (n : Nat), rows (dep f t) t' d = some n → n ≤ f := fun t t' d n h => by
      obtain ⟨els, _, _, h3⟩ := rows_some h
      exact deps_le (fun e n he => dep_le f t e n he) els 0 n (by omega) h3
    cases t <;> simp only [dep] at h
    case ast =>
      split at h
      · split at h
        · cases h; omega
        · obtain ⟨x, h0, rfl⟩ := up_some h
          obtain ⟨x1, x2, h1, h2, rfl⟩ := mx_some h0
          obtain ⟨x3, x4, h3, h4, rfl⟩ := mx_some h1
          have := hr _ _ _ _ h2; have := hr _ _ _ _ h3; have := hr _ _ _ _ h4; omega
      · cases h
    case arg => have := dep_le f _ _ _ h; omega
    case var =>
      obtain ⟨x1, x2, h1, h2, rfl⟩ := mx_some h
      have := dep_le f _ _ _ h1; have := dep_le f _ _ _ h2; omega
    case decl => have := hr _ _ _ _ h; omega
    case stmts => have := hr _ _ _ _ h; omega
    case stmt =>
      obtain ⟨x, h0, rfl⟩ := up_some h
      obtain ⟨x1, x2, h1, h2, rfl⟩ := mx_some h0
      obtain ⟨x3, x4, h3, h4, rfl⟩ := mx_some h1
      obtain ⟨x5, x6, h5, h6, rfl⟩ := mx_some h3
      obtain ⟨x7, x8, h7, h8, rfl⟩ := mx_some h5
      obtain ⟨x9, y0, h9, g0, rfl⟩ := mx_some h7
      obtain ⟨y1, y2, g1, g2, rfl⟩ := mx_some h9
      have := dep_le f _ _ _ h2; have := hr _ _ _ _ h4; have := dep_le f _ _ _ h6; have := hr _ _ _ _ h8; have := hr _ _ _ _ g0; have := hr _ _ _ _ g1; have := dep_le f _ _ _ g2; omega
    case unit =>
      obtain ⟨x1, x2, h1, h2, rfl⟩ := mx_some h
      obtain ⟨x3, x4, h3, h4, rfl⟩ := mx_some h1
      obtain ⟨x5, x6, h5, h6, rfl⟩ := mx_some h3
      have := dep_le f _ _ _ h2; have := hr _ _ _ _ h4; have := dep_le f _ _ _ h5; have := dep_le f _ _ _ h6; omega
    all_goals cases h

theorem rows_le {f : Nat} {t t' : Ty} {d : Option D} {n : Nat} (h : rows (dep f t) t' d = some n) : n ≤ f := by
  obtain ⟨els, _, _, h3⟩ := rows_some h
  exact deps_le (fun e n he => dep_le f t e n he) els 0 n (by omega) h3

/-- Cells that are only read. -/
structure Ro (w : World) (b o : Nat) (ds : List D) : Prop where
  c : ∀ (i : Nat) (d : D), ds[i]? = some d → ∃ v, w.cell? ⟨b, o + i, none⟩ = some v ∧ DIs ty w (fun _ => True) v d

theorem DIs.drewN {w : World} {v : Value} {d : D} (n : Nat) (h : DIs ty w (fun _ => True) v d) : DIs ty (w.drewN n) (fun _ => True) v d := h.kept (fun _ _ _ => rfl)
theorem Ro.drewN {w : World} {b o : Nat} {ds : List D} (n : Nat) (h : Ro w b o ds) : Ro (w.drewN n) b o ds := ⟨fun i d hd => by
  obtain ⟨v, h1, h2⟩ := h.c i d hd
  exact ⟨v, h1, h2.drewN n⟩⟩
theorem Ro.drop {w : World} {b o : Nat} {ds : List D} (k : Nat) (h : Ro w b o ds) : Ro w b (o + k) (ds.drop k) := ⟨fun i d hd => by
  rw [List.getElem?_drop] at hd
  obtain ⟨v, h1, h2⟩ := h.c _ d hd
  exact ⟨v, by rw [Nat.add_assoc]; exact h1, h2⟩⟩
theorem At.ro {w : World} {F : Nat → Prop} {b : Nat} {t : TypeId} {N o : Nat} {ds : List D} (h : At ty w F b t N o ds) : Ro w b o ds := ⟨fun i d hd => by
  obtain ⟨v, h1, h2⟩ := h.cell i d hd
  exact ⟨v, h1, h2.mono (fun _ _ => trivial)⟩⟩
/-- A row's slice, and its elements. -/
theorem DIs.els {w : World} {v : Value} {t : Ty} {els : List (List D)} (h : DIs ty w (fun _ => True) v (.row t els)) :
    (els = [] ∧ v = .slice none 0 0) ∨ ∃ g cap, els ≠ [] ∧ v = .slice (some ⟨g, 0, none⟩) els.length cap ∧ ∀ (j : Nat) (e : List D), els[j]? = some e → Ro w g (j * ty.size t) e := by
  cases h with
  | nil => exact .inl ⟨rfl, rfl⟩
  | row _ Fe _ _ g cap cur hg h0 hn hc hs hel hF hFe hcells hd =>
    refine .inr ⟨g, cap, fun e => by rw [e] at h0; simp at h0, rfl, fun j e hj => ⟨fun p d hp => ?_⟩⟩
    have hpl : p < ty.size t := by rw [← hel e (List.mem_of_getElem? hj)]; exact (List.getElem?_eq_some_iff.1 hp).1
    have hfl : els.flatten[j * ty.size t + p]? = some d := by rw [flat_get hel hj hpl]; exact hp
    obtain ⟨u, hu⟩ := hcells _ _ hfl
    exact ⟨u, by rw [cell_blk hg]; exact hu, (hd _ _ _ hfl hu).mono (fun _ _ => trivial)⟩

/-- What a function of one pointer gives, only reading. -/
def Gives (K : FuncId) (w : World) (b o n : Nat) : Prop := Calls Tryz.prog K #[.pointer (some ⟨b, o, none⟩)] w fun e w' => e = .returned (.int .i64 (n : Int)) ∧ ∃ k, w' = w.drewN k
def DepIs (K : FuncId) (g : List D → Option Nat) : Prop := ∀ (ds : List D) (n : Nat), g ds = some n → ∀ (w : World) (b o : Nat), Ro w b o ds → Gives K w b o n
def RowIs (fn K : FuncId) (g : List D → Option Nat) (t : Ty) : Prop := ∀ (d : Option D) (n : Nat), rows g t d = some n → ∀ (w : World) (b p : Nat), (∀ d', d = some d' → ∃ v, w.cell? ⟨b, p, none⟩ = some v ∧ DIs ty w (fun _ => True) v d') →
  ∃ v, w.cell? ⟨b, p, none⟩ = some v ∧ (∃ ao l c, v = .slice ao l c) ∧ ∀ m, Calls Tryz.prog fn #[v, .func (.func K) #[] #[]] (w.drewN m) fun e w' => e = .returned (.int .i64 (n : Int)) ∧ ∃ k, w' = (w.drewN m).drewN k

/-- The greater of two. -/
def mxi (x y : Int) : Int := if y > x then y else x
theorem mxi_nat (a b : Nat) : mxi (a : Int) (b : Int) = ((max a b : Nat) : Int) := by
  unfold mxi
  split <;> omega

@[go_sem high] theorem run_mx2 {P : Program} (w : World) (ts : Array TypeId) (t : TypeId) (x y : Int) :
    (Builtin.max_ ts t #[.int .i64 x, .int .i64 y]).run P w = .ok (.int .i64 (mxi x y)) w := by
  simp [Builtin.max_, Builtin.max2, mxi]
@[go_sem high] theorem run_mx3 {P : Program} (w : World) (ts : Array TypeId) (t : TypeId) (x y z : Int) :
    (Builtin.max_ ts t #[.int .i64 x, .int .i64 y, .int .i64 z]).run P w = .ok (.int .i64 (mxi (mxi x y) z)) w := by
  simp [Builtin.max_, Builtin.max2, mxi]
@[go_sem high] theorem run_mx4 {P : Program} (w : World) (ts : Array TypeId) (t : TypeId) (x y z u : Int) :
    (Builtin.max_ ts t #[.int .i64 x, .int .i64 y, .int .i64 z, .int .i64 u]).run P w = .ok (.int .i64 (mxi (mxi (mxi x y) z) u)) w := by
  simp [Builtin.max_, Builtin.max2, mxi]
@[go_sem high] theorem run_mx5 {P : Program} (w : World) (ts : Array TypeId) (t : TypeId) (x y z u v : Int) :
    (Builtin.max_ ts t #[.int .i64 x, .int .i64 y, .int .i64 z, .int .i64 u, .int .i64 v]).run P w = .ok (.int .i64 (mxi (mxi (mxi (mxi x y) z) u) v)) w := by
  simp [Builtin.max_, Builtin.max2, mxi]

end Go.Proofs.YthmdgbmodgfcmaaGreatDoor
