/-
  SPlain.
-/
import Derived.Test.YthmdgbmodgfcmaaGreatDoorM5
/-
  How a program's words are read, as the chapter's grammar says: one function on goals, by fuel; what is read is cells' data. Nothing of the program's text.
-/
namespace Go.Proofs.YthmdgbmodgfcmaaGreatDoor

abbrev Res := Except Mis (List D × Nat)

/-- A text and its words. -/
structure Cx where
  len : Nat
  text : List UInt8
  T : List Tok

def Cx.kindAt (c : Cx) (i : Nat) : Nat := match c.T[i]? with | some t => t.kind | none => 0
def Cx.textAt (c : Cx) (i : Nat) : List UInt8 := match c.T[i]? with | some t => t.text | none => []
def Cx.numAt (c : Cx) (i : Nat) : Nat := match c.T[i]? with | some t => t.n | none => 0
def Cx.keyAt (c : Cx) (i : Nat) : List UInt8 := match c.T[i]? with | some t => if t.kind = 4 then t.text else [] | none => []
def Cx.place (c : Cx) (i : Nat) : Nat := match c.T[i]? with | some t => t.at_ | none => c.len
def Cx.refuse (c : Cx) (i : Nat) : Mis := (if i < c.T.length then 30 else 21, c.place i)

def bnd (r : Res) (k : List D → Nat → Res) : Res := match r with | .error e => .error e | .ok (d, a) => k d a
theorem bnd_ok (d : List D) (a : Nat) (k : List D → Nat → Res) : bnd (.ok (d, a)) k = k d a := rfl
theorem bnd_error (e : Mis) (k : List D → Nat → Res) : bnd (.error e) k = .error e := rfl

def need (c : Cx) (s : List UInt8) (i : Nat) (k : Nat → Res) : Res := if c.keyAt i = s then k (i + 1) else .error (c.refuse i)

/- the zero trees -/
def zRef : List D := [.row .str [], .row .ast [], .row .bool []]
def zAst : List D := [.num 0, .num 0, .str [], .str [], .row .str [], .row .ast [], .row .bool [], .row .ast [], .row .arg []]
def zArg : List D := .bit false :: .bit false :: zAst
def zVar : List D := [.str [], .bit false] ++ zAst ++ [.bit false] ++ zAst ++ [.bit false, .row .int []]
def zDecl : List D := [.num 0, .str [], .row .var [], .num 0]
def zStmt : List D := [.num 0, .num 0, .str [], .str [], .num 0, .bit false, .bit false, .bit false] ++ zRef ++ zAst ++ [.row .ast [], .row .arg []] ++ zDecl ++ [.row .stmts [], .row .stmt []]
def zUnit : List D := [.num 0, .num 0, .str [], .str [], .row .str [], .bit false] ++ zAst ++ zDecl ++ [.row .decl [], .row .stmt []]

def zero : Ty → List D
  | .str => [.str []] | .ast => zAst | .bool => [.bit false] | .arg => zArg | .stmt => zStmt | .stmts => [.row .stmt []] | .decl => zDecl | .var => zVar | .int => [.num 0] | .unit => zUnit

def aNum (n : Int) : List D := [.num 1, .num n, .str [], .str [], .row .str [], .row .ast [], .row .bool [], .row .ast [], .row .arg []]
def aRef (r : List D) : List D := [.num 2, .num 0, .str [], .str []] ++ r ++ [.row .ast [], .row .arg []]
def aUnary (op : List UInt8) (kids : D) : List D := [.num 3, .num 0, .str op, .str [], .row .str [], .row .ast [], .row .bool [], kids, .row .arg []]
def aBinary (op : List UInt8) (a b : List D) : List D := [.num 4, .num 0, .str op, .str [], .row .str [], .row .ast [], .row .bool [], .row .ast [a, b], .row .arg []]
def aCond (a b c : List D) : List D := [.num 5, .num 0, .str [], .str [], .row .str [], .row .ast [], .row .bool [], .row .ast [a, b, c], .row .arg []]
def aLen (op : List UInt8) (r : List D) : List D := [.num 6, .num 0, .str op, .str []] ++ r ++ [.row .ast [], .row .arg []]
def aPoll (op : List UInt8) (r : List D) (args : D) : List D := [.num 7, .num 0, .str op, .str []] ++ r ++ [.row .ast [], args]
def aRun (nm : D) (kids : D) : List D := [.num 8, .num 0, nm, .str [], .row .str [], .row .ast [], .row .bool [], kids, .row .arg []]
def aAt (nm : D) (label : D) (kids : D) : List D := [.num 9, .num 0, nm, label, .row .str [], .row .ast [], .row .bool [], kids, .row .arg []]
def aWord (w : List UInt8) : List D := [.num 10, .num 0, .str w, .str [], .row .str [], .row .ast [], .row .bool [], .row .ast [], .row .arg []]

/-- The level of an operator; 0: it is none. -/
def levelOf (op : List UInt8) : Nat :=
  if op = [124, 124] then 1 else if op = [38, 38] then 2 else if op = [124] then 3 else if op = [94] then 4 else if op = [38] then 5
  else if op = [61, 61] ∨ op = [33, 61] then 6 else if op = [60] ∨ op = [60, 61] ∨ op = [62] ∨ op = [62, 61] then 7 else if op = [60, 60] ∨ op = [62, 62] then 8
  else if op = [43] ∨ op = [45] then 9 else if op = [42] ∨ op = [47] ∨ op = [37] then 10 else 0

/-- The type of a word; 0: it is none. -/
def typeOf (s : List UInt8) : Nat :=
  if s = [98, 105, 116] then 1 else if s = [98, 111, 111, 108] then 2 else if s = [98, 121, 116, 101] then 3 else if s = [115, 104, 111, 114, 116] then 4 else if s = [105, 110, 116] then 5 else if s = [109, 116, 121, 112, 101] then 6 else if s = [112, 105, 100] then 7 else if s = [99, 104, 97, 110] then 8 else 0

/-- What is read: a part of the grammar, and what lies there already. -/
inductive Goal where
  | name | expr | operators (least : Nat) | more (least : Nat) (e : List D) | unary | primary | parens | cond (e : List D) | run | length | named | label (e : List D) | poll (e : List D)
  | ref | refMore (r : List D) | part (r : List D) | index | arg
  | row (g : Goal) (t : Ty) (els : List (List D)) | rowMore (g : Goal) (t : Ty) (els : List (List D)) | inParens (g : Goal) (t : Ty) | inBraces (g : Goal) (t : Ty) | message (g : Goal) (t : Ty)
  | plainType | decls | declsMore (els : List (List D)) | decl | variable | beginning (v : List D)
  | body | steps | stepsMore (els : List (List D)) | step | unless (s : List D) | stmt | options (fin : List UInt8) | optionsMore (fin : List UInt8) (els : List (List D)) | option
  | simple (s : List D) | assertion (s : List D) | print (s : List D) | namedStmt (s : List D) | onVariable (s : List D) | received (s : List D)
  | program (els : List (List D)) | unit | mtypeOrDecl (u : List D) | typedef (u : List D) | proctype (u : List D) | active (u : List D) | inline (u : List D) | ltl (u : List D)

/-- Semicolons and arrows, as many as there are. -/
def sepsF (c : Cx) : Nat → Nat → Nat
  | 0, i => i
  | f + 1, i => if c.keyAt i = [59] ∨ c.keyAt i = [45, 62] then sepsF c f (i + 1) else i
def seps (c : Cx) (i : Nat) : Nat := sepsF c (c.T.length + 1) i

/-- The brace that matches, from i on, so many being open; none: there is none. -/
def braceF (c : Cx) : Nat → Nat → Nat → Option Nat
  | 0, _, _ => none
  | f + 1, opn, i =>
    if c.keyAt i = [123] then braceF c f (opn + 1) (i + 1)
    else if c.keyAt i = [125] then (if opn = 1 then some i else braceF c f (opn - 1) (i + 1))
    else if i < c.T.length then braceF c f opn (i + 1) else none

def splice (ds : List D) (i : Nat) (es : List D) : List D := ds.take i ++ es ++ ds.drop (i + es.length)

def rowOf1 (d : D) : List (List D) := match d with | .row _ els => els | _ => []
def refNames (r : List D) : List (List D) := rowOf1 (r.getD 0 (.num 0))
def refIndex (r : List D) : List (List D) := rowOf1 (r.getD 1 (.num 0))
def refHas (r : List D) : List (List D) := rowOf1 (r.getD 2 (.num 0))
def isTrue (d : D) : Bool := match d with | .bit b => b | _ => false

def isPoll (c : Cx) (i : Nat) : Bool := (c.keyAt i = [63] ∨ c.keyAt i = [63, 63]) ∧ c.keyAt (i + 1) = [91]
def isClosed (c : Cx) (i : Nat) : Bool := c.keyAt (i - 1) = [125] ∨ c.keyAt (i - 1) = [102, 105] ∨ c.keyAt (i - 1) = [111, 100]
def isType (c : Cx) (i : Nat) : Bool := typeOf (c.keyAt i) ≠ 0

/-- Behind a step: is there one more, and from where on? -/
def anotherStep (c : Cx) (i : Nat) : Except Mis (Bool × Nat) :=
  let j := seps c i
  if c.keyAt j = [125] ∨ c.keyAt j = [58, 58] ∨ c.keyAt j = [102, 105] ∨ c.keyAt j = [111, 100] then .ok (false, j)
  else if isClosed c i = false ∧ i = j then .error (c.refuse j) else .ok (true, j)

def run (c : Cx) : Nat → Goal → Nat → Res
  | 0, _, _ => .error (0, 0)
  | f + 1, g, i => match g with
    | .name => if c.kindAt i = 1 then .ok ([.str (c.textAt i)], i + 1) else .error (c.refuse i)
    | .expr => run c f (.operators 1) i
    | .operators least => bnd (run c f .unary i) fun e i => run c f (.more least e) i
    | .more least e =>
      if levelOf (c.keyAt i) < least then .ok (e, i)
      else bnd (run c f (.operators (levelOf (c.keyAt i) + 1)) (i + 1)) fun e2 j => run c f (.more least (aBinary (c.keyAt i) e e2)) j
    | .unary =>
      if c.keyAt i = [33] ∨ c.keyAt i = [126] ∨ c.keyAt i = [45] then bnd (run c f .unary (i + 1)) fun e j => .ok (aUnary (c.keyAt i) (.row .ast [e]), j)
      else run c f .primary i
    | .primary =>
      if c.kindAt i = 2 then .ok (aNum (c.numAt i), i + 1)
      else if c.kindAt i = 1 then run c f .named i
      else if c.keyAt i = [116, 114, 117, 101] then .ok (aNum 1, i + 1)
      else if c.keyAt i = [102, 97, 108, 115, 101] then .ok (aNum 0, i + 1)
      else if c.keyAt i = [40] then run c f .parens i
      else if c.keyAt i = [114, 117, 110] then run c f .run i
      else if c.keyAt i = [116, 105, 109, 101, 111, 117, 116] ∨ c.keyAt i = [110, 112, 95] ∨ c.keyAt i = [95, 112, 105, 100] ∨ c.keyAt i = [95, 110, 114, 95, 112, 114] then .ok (aWord (c.keyAt i), i + 1)
      else if c.keyAt i = [108, 101, 110] ∨ c.keyAt i = [102, 117, 108, 108] ∨ c.keyAt i = [101, 109, 112, 116, 121] ∨ c.keyAt i = [110, 102, 117, 108, 108] ∨ c.keyAt i = [110, 101, 109, 112, 116, 121] then run c f .length i
      else .error (c.refuse i)
    | .parens => need c [40] i fun i => bnd (run c f .expr i) fun e i =>
        if c.keyAt i = [45, 62] then bnd (run c f (.cond e) (i + 1)) fun e i => need c [41] i fun i => .ok (e, i) else need c [41] i fun i => .ok (e, i)
    | .cond e => bnd (run c f .expr i) fun e1 i => need c [58] i fun i => bnd (run c f .expr i) fun e2 i => .ok (aCond e e1 e2, i)
    | .run => need c [114, 117, 110] i fun i => bnd (run c f .name i) fun nm i => bnd (run c f (.inParens .expr .ast) i) fun kids i => .ok (aRun (nm.getD 0 (.num 0)) (kids.getD 0 (.num 0)), i)
    | .length => need c [40] (i + 1) fun j => bnd (run c f .ref j) fun r j => need c [41] j fun j => .ok (aLen (c.keyAt i) r, j)
    | .named => bnd (run c f .ref i) fun r i =>
        if c.keyAt i = [64] ∧ (refNames r).length = 1 ∧ isTrue (((refHas r).getD 0 []).getD 0 (.num 0)) = true then run c f (.label (aRef r)) i
        else if isPoll c i then run c f (.poll (aRef r)) i else .ok (aRef r, i)
    | .label e => need c [64] i fun i => bnd (run c f .name i) fun nm i => .ok (aAt (((refNames (e.drop 4)).getD 0 []).getD 0 (.num 0)) (nm.getD 0 (.num 0)) (e.getD 5 (.num 0)), i)
    | .poll e => need c [91] (i + 1) fun j => bnd (run c f (.message .arg .arg) j) fun args j => need c [93] j fun j => .ok (aPoll (c.keyAt i) ((e.drop 4).take 3) (args.getD 0 (.num 0)), j)
    | .ref => bnd (run c f (.part zRef) i) fun r i => run c f (.refMore r) i
    | .refMore r => if c.keyAt i = [46] then bnd (run c f (.part r) (i + 1)) fun r i => run c f (.refMore r) i else .ok (r, i)
    | .part r => bnd (run c f .name i) fun nm i =>
        if c.keyAt i = [91] then bnd (run c f .index i) fun e i => .ok ([.row .str (refNames r ++ [nm]), .row .ast (refIndex r ++ [e]), .row .bool (refHas r ++ [[.bit true]])], i)
        else .ok ([.row .str (refNames r ++ [nm]), .row .ast (refIndex r ++ [zAst]), .row .bool (refHas r ++ [[.bit false]])], i)
    | .index => need c [91] i fun i => bnd (run c f .expr i) fun e i => need c [93] i fun i => .ok (e, i)
    | .arg =>
      if c.kindAt i = 1 then bnd (run c f .ref i) fun r i => .ok (.bit false :: .bit false :: aRef r, i)
      else if c.keyAt i = [95] then .ok (.bit false :: .bit true :: zAst, i + 1)
      else if c.keyAt i = [101, 118, 97, 108] then need c [40] (i + 1) fun i => bnd (run c f .expr i) fun e i => need c [41] i fun i => .ok (.bit true :: .bit false :: e, i)
      else if c.kindAt i = 2 ∨ c.keyAt i = [45] ∨ c.keyAt i = [116, 114, 117, 101] ∨ c.keyAt i = [102, 97, 108, 115, 101] then bnd (run c f .unary i) fun e i => .ok (.bit true :: .bit false :: e, i)
      else .error (c.refuse i)
    | .row g t els => bnd (run c f g i) fun e i => run c f (.rowMore g t (els ++ [e])) i
    | .rowMore g t els => if c.keyAt i = [44] then bnd (run c f g (i + 1)) fun e i => run c f (.rowMore g t (els ++ [e])) i else .ok ([.row t els], i)
    | .inParens g t => need c [40] i fun i => if c.keyAt i = [41] then need c [41] i fun i => .ok ([.row t []], i) else bnd (run c f (.row g t []) i) fun d i => need c [41] i fun i => .ok (d, i)
    | .inBraces g t => need c [123] i fun i => bnd (run c f (.row g t []) i) fun d i => need c [125] i fun i => .ok (d, i)
    | .message g t => bnd (run c f g i) fun e i =>
        if c.keyAt i = [40] then bnd (run c f (.row g t [e]) (i + 1)) fun d i => need c [41] i fun i => .ok (d, i)
        else if c.keyAt i = [44] then run c f (.row g t [e]) (i + 1) else .ok ([.row t [e]], i)
    | .plainType => if isType c i then .ok ([.num (typeOf (c.keyAt i))], i + 1) else .error (c.refuse i)
    | .decls => bnd (run c f .decl i) fun d i => run c f (.declsMore [d]) i
    | .declsMore els =>
      if c.keyAt i = [59] then (if isType c (i + 1) = true ∨ c.kindAt (i + 1) = 1 then bnd (run c f .decl (i + 1)) fun d i => run c f (.declsMore (els ++ [d])) i else run c f (.declsMore els) (i + 1))
      else .ok ([.row .decl els], i)
    | .decl =>
      if c.kindAt i = 1 then bnd (run c f (.row .variable .var []) (i + 1)) fun vs j => .ok ([.num (-1), .str (c.textAt i)] ++ vs ++ [.num (c.place i)], j)
      else bnd (run c f .plainType i) fun t j => bnd (run c f (.row .variable .var []) j) fun vs j => .ok (t ++ [.str []] ++ vs ++ [.num (c.place i)], j)
    | .variable => bnd (run c f .name i) fun nm i =>
        if c.keyAt i = [91] then bnd (run c f .index i) fun e i => (if c.keyAt i = [61] then run c f (.beginning (splice zVar 0 (nm ++ [.bit true] ++ e))) (i + 1) else .ok (splice zVar 0 (nm ++ [.bit true] ++ e), i))
        else if c.keyAt i = [61] then run c f (.beginning (splice zVar 0 nm)) (i + 1) else .ok (splice zVar 0 nm, i)
    | .beginning v =>
      if c.keyAt i = [91] then bnd (run c f .index i) fun e i => need c [111, 102] i fun i => bnd (run c f (.inBraces .plainType .int) i) fun ts i => .ok (splice v 12 (e ++ [.bit true] ++ ts), i)
      else bnd (run c f .expr i) fun e i => .ok (splice v 11 (.bit true :: e), i)
    | .body => need c [123] i fun i => bnd (run c f .steps i) fun l i => need c [125] i fun i => .ok (l, i)
    | .steps => bnd (run c f .step i) fun s i => run c f (.stepsMore [s]) i
    | .stepsMore els => match anotherStep c i with
        | .error e => .error e
        | .ok (false, j) => .ok ([.row .stmt els], j)
        | .ok (true, j) => bnd (run c f .step j) fun s i => run c f (.stepsMore (els ++ [s])) i
    | .step =>
      if isType c i = true ∨ (c.kindAt i = 1 ∧ c.kindAt (i + 1) = 1) then bnd (run c f .decl i) fun d j => .ok (splice (splice zStmt 0 [.num 1, .num (c.place i)]) 22 d, j)
      else bnd (run c f .stmt i) fun s i => if c.keyAt i = [117, 110, 108, 101, 115, 115] then run c f (.unless s) (i + 1) else .ok (s, i)
    | .unless s => bnd (run c f .stmt i) fun t i => .ok (splice (splice zStmt 0 [.num 15, s.getD 1 (.num 0)]) 27 [.row .stmt [s, t]], i)
    | .stmt =>
      let s := splice zStmt 1 [.num (c.place i)]
      if c.kindAt i = 1 then run c f (.namedStmt s) i
      else if c.keyAt i = [123] then bnd (run c f .body i) fun l i => .ok (splice (splice s 0 [.num 14]) 27 l, i)
      else if c.keyAt i = [97, 116, 111, 109, 105, 99] then bnd (run c f .body (i + 1)) fun l i => .ok (splice (splice s 0 [.num 12]) 27 l, i)
      else if c.keyAt i = [100, 95, 115, 116, 101, 112] then bnd (run c f .body (i + 1)) fun l i => .ok (splice (splice s 0 [.num 13]) 27 l, i)
      else if c.keyAt i = [105, 102] then bnd (run c f (.options [102, 105]) i) fun l i => .ok (splice (splice s 0 [.num 7]) 26 l, i)
      else if c.keyAt i = [100, 111] then bnd (run c f (.options [111, 100]) i) fun l i => .ok (splice (splice s 0 [.num 8]) 26 l, i)
      else run c f (.simple s) i
    | .options fin => bnd (run c f .option (i + 1)) fun l i => run c f (.optionsMore fin [l]) i
    | .optionsMore fin els => if c.keyAt i = fin then .ok ([.row .stmts els], i + 1) else bnd (run c f .option i) fun l i => run c f (.optionsMore fin (els ++ [l])) i
    | .option => need c [58, 58] i fun i => run c f .steps i
    | .simple s =>
      if c.keyAt i = [98, 114, 101, 97, 107] then .ok (splice s 0 [.num 9], i + 1)
      else if c.keyAt i = [115, 107, 105, 112] then .ok (splice s 0 [.num 19], i + 1)
      else if c.keyAt i = [101, 108, 115, 101] then .ok (splice s 0 [.num 20], i + 1)
      else if c.keyAt i = [103, 111, 116, 111] then bnd (run c f .name (i + 1)) fun nm i => .ok (splice (splice s 0 [.num 10]) 2 nm, i)
      else if c.keyAt i = [97, 115, 115, 101, 114, 116] then run c f (.assertion s) i
      else if c.keyAt i = [112, 114, 105, 110, 116, 102] then run c f (.print s) i
      else bnd (run c f .expr i) fun e i => .ok (splice (splice s 0 [.num 2]) 11 e, i)
    | .assertion s => need c [97, 115, 115, 101, 114, 116] i fun i => need c [40] i fun i => bnd (run c f .expr i) fun e i => need c [41] i fun i => .ok (splice (splice s 0 [.num 16]) 11 e, i)
    | .print s => need c [112, 114, 105, 110, 116, 102] i fun i => need c [40] i fun i =>
        if c.kindAt i = 3 then
          (if c.keyAt (i + 1) = [44] then bnd (run c f (.row .expr .ast []) (i + 2)) fun es j => need c [41] j fun j => .ok (splice (splice (splice s 0 [.num 17]) 3 [.str (c.textAt i)]) 20 es, j)
           else need c [41] (i + 1) fun j => .ok (splice (splice s 0 [.num 17]) 3 [.str (c.textAt i)], j))
        else .error (c.refuse i)
    | .namedStmt s =>
      if c.keyAt (i + 1) = [58] then bnd (run c f .stmt (i + 2)) fun t j => .ok (splice (splice (splice s 0 [.num 11]) 2 [.str (c.textAt i)]) 27 [.row .stmt [t]], j)
      else if c.keyAt (i + 1) = [40] then bnd (run c f (.inParens .expr .ast) (i + 1)) fun es j => .ok (splice (splice (splice s 0 [.num 18]) 2 [.str (c.textAt i)]) 20 es, j)
      else run c f (.onVariable s) i
    | .onVariable s => bnd (run c f .ref i) fun r j =>
        if isPoll c j then bnd (run c f .expr i) fun e j => .ok (splice (splice s 0 [.num 2]) 11 e, j)
        else if c.keyAt j = [61] then bnd (run c f .expr (j + 1)) fun e j => .ok (splice (splice (splice s 0 [.num 3]) 8 r) 11 e, j)
        else if c.keyAt j = [43, 43] then .ok (splice (splice (splice s 0 [.num 4]) 4 [.num 1]) 8 r, j + 1)
        else if c.keyAt j = [45, 45] then .ok (splice (splice (splice s 0 [.num 4]) 4 [.num (-1)]) 8 r, j + 1)
        else if c.keyAt j = [33] ∨ c.keyAt j = [33, 33] then bnd (run c f (.message .expr .ast) (j + 1)) fun es k => .ok (splice (splice (splice (splice s 0 [.num 5]) 5 [.bit (c.keyAt j = [33, 33])]) 8 r) 20 es, k)
        else if c.keyAt j = [63] ∨ c.keyAt j = [63, 63] then run c f (.received (splice (splice (splice s 0 [.num 6]) 6 [.bit (c.keyAt j = [63, 63])]) 8 r)) (j + 1)
        else bnd (run c f .expr i) fun e j => .ok (splice (splice s 0 [.num 2]) 11 e, j)
    | .received s =>
      if c.keyAt i = [60] then bnd (run c f (.message .arg .arg) (i + 1)) fun as i => need c [62] i fun i => .ok (splice (splice s 7 [.bit true]) 21 as, i)
      else bnd (run c f (.message .arg .arg) i) fun as i => .ok (splice (splice s 7 [.bit false]) 21 as, i)
    | .program els =>
      if i < c.T.length then (if c.keyAt i = [59] then run c f (.program els) (i + 1) else bnd (run c f .unit i) fun u i => run c f (.program (els ++ [u])) i) else .ok ([.row .unit els], i)
    | .unit =>
      let u := splice zUnit 1 [.num (c.place i)]
      if c.keyAt i = [116, 121, 112, 101, 100, 101, 102] then run c f (.typedef u) i
      else if c.keyAt i = [97, 99, 116, 105, 118, 101] ∨ c.keyAt i = [112, 114, 111, 99, 116, 121, 112, 101] then run c f (.proctype u) i
      else if c.keyAt i = [105, 110, 105, 116] then bnd (run c f .body (i + 1)) fun l i => .ok (splice (splice u 0 [.num 5]) 20 l, i)
      else if c.keyAt i = [110, 101, 118, 101, 114] then bnd (run c f .body (i + 1)) fun l i => .ok (splice (splice u 0 [.num 6]) 20 l, i)
      else if c.keyAt i = [105, 110, 108, 105, 110, 101] then run c f (.inline u) i
      else if c.keyAt i = [108, 116, 108] then run c f (.ltl u) i
      else run c f (.mtypeOrDecl u) i
    | .mtypeOrDecl u =>
      if c.keyAt i = [109, 116, 121, 112, 101] ∧ (c.keyAt (i + 1) = [61] ∨ c.keyAt (i + 1) = [123]) then
        bnd (run c f (.inBraces .name .str) (if c.keyAt (i + 1) = [61] then i + 2 else i + 1)) fun ns i => .ok (splice (splice u 0 [.num 1]) 4 ns, i)
      else bnd (run c f .decl i) fun d i => .ok (splice (splice u 0 [.num 2]) 15 d, i)
    | .typedef u => need c [116, 121, 112, 101, 100, 101, 102] i fun i => bnd (run c f .name i) fun nm i => need c [123] i fun i => bnd (run c f .decls i) fun ds i => need c [125] i fun i => .ok (splice (splice (splice u 0 [.num 3]) 2 nm) 19 ds, i)
    | .proctype u =>
      let rest := fun (u : List D) (i : Nat) => need c [112, 114, 111, 99, 116, 121, 112, 101] i fun i => bnd (run c f .name i) fun nm i => need c [40] i fun i =>
        if c.keyAt i = [41] then need c [41] i fun i => bnd (run c f .body i) fun l i => .ok (splice (splice u 2 nm) 20 l, i)
        else bnd (run c f .decls i) fun ds i => need c [41] i fun i => bnd (run c f .body i) fun l i => .ok (splice (splice (splice u 2 nm) 19 ds) 20 l, i)
      if c.keyAt i = [97, 99, 116, 105, 118, 101] then bnd (run c f (.active (splice u 0 [.num 4])) (i + 1)) rest else rest (splice u 0 [.num 4]) i
    | .active u => if c.keyAt i = [91] then bnd (run c f .index i) fun e i => .ok (splice u 5 (.bit true :: e), i) else .ok (splice u 5 (.bit true :: aNum 1), i)
    | .inline u => need c [105, 110, 108, 105, 110, 101] i fun i => bnd (run c f .name i) fun nm i => bnd (run c f (.inParens .name .str) i) fun ns i => bnd (run c f .body i) fun l i => .ok (splice (splice (splice (splice u 0 [.num 7]) 2 nm) 4 ns) 20 l, i)
    | .ltl u => need c [108, 116, 108] i fun i =>
        let rest := fun (u : List D) (i : Nat) => need c [123] i fun j => match braceF c (c.T.length + 2) 1 j with
          | some k => .ok (splice u 3 [.str (((c.text.take (c.place k)).drop (c.place i + 1)))], k + 1)
          | none => .error (21, c.len)
        if c.kindAt i = 1 then rest (splice (splice u 0 [.num 8]) 2 [.str (c.textAt i)]) (i + 1) else rest (splice u 0 [.num 8]) i

end Go.Proofs.YthmdgbmodgfcmaaGreatDoor
