/-
  SEqs.
-/
import Derived.Test.YthmdgbmodgfcmaaGreatDoorM6
/-
  The equations of reading, a part each.
-/
namespace Go.Proofs.YthmdgbmodgfcmaaGreatDoor

theorem run_name (c : Cx) (f i : Nat) : run c (f + 1) .name i = ( if c.kindAt i = 1 then .ok ([.str (c.textAt i)], i + 1) else .error (c.refuse i)) := rfl
theorem run_expr (c : Cx) (f i : Nat) : run c (f + 1) .expr i = ( run c f (.operators 1) i) := rfl
theorem run_operators (c : Cx) (f i : Nat) (least : Nat) : run c (f + 1) (.operators least) i = ( bnd (run c f .unary i) fun e i => run c f (.more least e) i) := rfl
theorem run_more (c : Cx) (f i : Nat) (least : Nat) (e : List D) : run c (f + 1) (.more least e) i = (
      if levelOf (c.keyAt i) < least then .ok (e, i)
      else bnd (run c f (.operators (levelOf (c.keyAt i) + 1)) (i + 1)) fun e2 j => run c f (.more least (aBinary (c.keyAt i) e e2)) j) := rfl
theorem run_unary (c : Cx) (f i : Nat) : run c (f + 1) .unary i = (
      if c.keyAt i = [33] ∨ c.keyAt i = [126] ∨ c.keyAt i = [45] then bnd (run c f .unary (i + 1)) fun e j => .ok (aUnary (c.keyAt i) (.row .ast [e]), j)
      else run c f .primary i) := rfl
theorem run_primary (c : Cx) (f i : Nat) : run c (f + 1) .primary i = (
      if c.kindAt i = 2 then .ok (aNum (c.numAt i), i + 1)
      else if c.kindAt i = 1 then run c f .named i
      else if c.keyAt i = [116, 114, 117, 101] then .ok (aNum 1, i + 1)
      else if c.keyAt i = [102, 97, 108, 115, 101] then .ok (aNum 0, i + 1)
      else if c.keyAt i = [40] then run c f .parens i
      else if c.keyAt i = [114, 117, 110] then run c f .run i
      else if c.keyAt i = [116, 105, 109, 101, 111, 117, 116] ∨ c.keyAt i = [110, 112, 95] ∨ c.keyAt i = [95, 112, 105, 100] ∨ c.keyAt i = [95, 110, 114, 95, 112, 114] then .ok (aWord (c.keyAt i), i + 1)
      else if c.keyAt i = [108, 101, 110] ∨ c.keyAt i = [102, 117, 108, 108] ∨ c.keyAt i = [101, 109, 112, 116, 121] ∨ c.keyAt i = [110, 102, 117, 108, 108] ∨ c.keyAt i = [110, 101, 109, 112, 116, 121] then run c f .length i
      else .error (c.refuse i)) := rfl
theorem run_parens (c : Cx) (f i : Nat) : run c (f + 1) .parens i = ( need c [40] i fun i => bnd (run c f .expr i) fun e i =>
        if c.keyAt i = [45, 62] then bnd (run c f (.cond e) (i + 1)) fun e i => need c [41] i fun i => .ok (e, i) else need c [41] i fun i => .ok (e, i)) := rfl
theorem run_cond (c : Cx) (f i : Nat) (e : List D) : run c (f + 1) (.cond e) i = ( bnd (run c f .expr i) fun e1 i => need c [58] i fun i => bnd (run c f .expr i) fun e2 i => .ok (aCond e e1 e2, i)) := rfl
theorem run_run (c : Cx) (f i : Nat) : run c (f + 1) .run i = ( need c [114, 117, 110] i fun i => bnd (run c f .name i) fun nm i => bnd (run c f (.inParens .expr .ast) i) fun kids i => .ok (aRun (nm.getD 0 (.num 0)) (kids.getD 0 (.num 0)), i)) := rfl
theorem run_length (c : Cx) (f i : Nat) : run c (f + 1) .length i = ( need c [40] (i + 1) fun j => bnd (run c f .ref j) fun r j => need c [41] j fun j => .ok (aLen (c.keyAt i) r, j)) := rfl
theorem run_named (c : Cx) (f i : Nat) : run c (f + 1) .named i = ( bnd (run c f .ref i) fun r i =>
        if c.keyAt i = [64] ∧ (refNames r).length = 1 ∧ isTrue (((refHas r).getD 0 []).getD 0 (.num 0)) = true then run c f (.label (aRef r)) i
        else if isPoll c i then run c f (.poll (aRef r)) i else .ok (aRef r, i)) := rfl
theorem run_label (c : Cx) (f i : Nat) (e : List D) : run c (f + 1) (.label e) i = ( need c [64] i fun i => bnd (run c f .name i) fun nm i => .ok (aAt (((refNames (e.drop 4)).getD 0 []).getD 0 (.num 0)) (nm.getD 0 (.num 0)) (e.getD 5 (.num 0)), i)) := rfl
theorem run_poll (c : Cx) (f i : Nat) (e : List D) : run c (f + 1) (.poll e) i = ( need c [91] (i + 1) fun j => bnd (run c f (.message .arg .arg) j) fun args j => need c [93] j fun j => .ok (aPoll (c.keyAt i) ((e.drop 4).take 3) (args.getD 0 (.num 0)), j)) := rfl
theorem run_ref (c : Cx) (f i : Nat) : run c (f + 1) .ref i = ( bnd (run c f (.part zRef) i) fun r i => run c f (.refMore r) i) := rfl
theorem run_refMore (c : Cx) (f i : Nat) (r : List D) : run c (f + 1) (.refMore r) i = ( if c.keyAt i = [46] then bnd (run c f (.part r) (i + 1)) fun r i => run c f (.refMore r) i else .ok (r, i)) := rfl
theorem run_part (c : Cx) (f i : Nat) (r : List D) : run c (f + 1) (.part r) i = ( bnd (run c f .name i) fun nm i =>
        if c.keyAt i = [91] then bnd (run c f .index i) fun e i => .ok ([.row .str (refNames r ++ [nm]), .row .ast (refIndex r ++ [e]), .row .bool (refHas r ++ [[.bit true]])], i)
        else .ok ([.row .str (refNames r ++ [nm]), .row .ast (refIndex r ++ [zAst]), .row .bool (refHas r ++ [[.bit false]])], i)) := rfl
theorem run_index (c : Cx) (f i : Nat) : run c (f + 1) .index i = ( need c [91] i fun i => bnd (run c f .expr i) fun e i => need c [93] i fun i => .ok (e, i)) := rfl
theorem run_arg (c : Cx) (f i : Nat) : run c (f + 1) .arg i = (
      if c.kindAt i = 1 then bnd (run c f .ref i) fun r i => .ok (.bit false :: .bit false :: aRef r, i)
      else if c.keyAt i = [95] then .ok (.bit false :: .bit true :: zAst, i + 1)
      else if c.keyAt i = [101, 118, 97, 108] then need c [40] (i + 1) fun i => bnd (run c f .expr i) fun e i => need c [41] i fun i => .ok (.bit true :: .bit false :: e, i)
      else if c.kindAt i = 2 ∨ c.keyAt i = [45] ∨ c.keyAt i = [116, 114, 117, 101] ∨ c.keyAt i = [102, 97, 108, 115, 101] then bnd (run c f .unary i) fun e i => .ok (.bit true :: .bit false :: e, i)
      else .error (c.refuse i)) := rfl
theorem run_row (c : Cx) (f i : Nat) (g : Goal) (t : Ty) (els : List (List D)) : run c (f + 1) (.row g t els) i = ( bnd (run c f g i) fun e i => run c f (.rowMore g t (els ++ [e])) i) := rfl
theorem run_rowMore (c : Cx) (f i : Nat) (g : Goal) (t : Ty) (els : List (List D)) : run c (f + 1) (.rowMore g t els) i = ( if c.keyAt i = [44] then bnd (run c f g (i + 1)) fun e i => run c f (.rowMore g t (els ++ [e])) i else .ok ([.row t els], i)) := rfl
theorem run_inParens (c : Cx) (f i : Nat) (g : Goal) (t : Ty) : run c (f + 1) (.inParens g t) i = ( need c [40] i fun i => if c.keyAt i = [41] then need c [41] i fun i => .ok ([.row t []], i) else bnd (run c f (.row g t []) i) fun d i => need c [41] i fun i => .ok (d, i)) := rfl
theorem run_inBraces (c : Cx) (f i : Nat) (g : Goal) (t : Ty) : run c (f + 1) (.inBraces g t) i = ( need c [123] i fun i => bnd (run c f (.row g t []) i) fun d i => need c [125] i fun i => .ok (d, i)) := rfl
theorem run_message (c : Cx) (f i : Nat) (g : Goal) (t : Ty) : run c (f + 1) (.message g t) i = ( bnd (run c f g i) fun e i =>
        if c.keyAt i = [40] then bnd (run c f (.row g t [e]) (i + 1)) fun d i => need c [41] i fun i => .ok (d, i)
        else if c.keyAt i = [44] then run c f (.row g t [e]) (i + 1) else .ok ([.row t [e]], i)) := rfl
theorem run_plainType (c : Cx) (f i : Nat) : run c (f + 1) .plainType i = ( if isType c i then .ok ([.num (typeOf (c.keyAt i))], i + 1) else .error (c.refuse i)) := rfl
theorem run_decls (c : Cx) (f i : Nat) : run c (f + 1) .decls i = ( bnd (run c f .decl i) fun d i => run c f (.declsMore [d]) i) := rfl
theorem run_declsMore (c : Cx) (f i : Nat) (els : List (List D)) : run c (f + 1) (.declsMore els) i = (
      if c.keyAt i = [59] then (if isType c (i + 1) = true ∨ c.kindAt (i + 1) = 1 then bnd (run c f .decl (i + 1)) fun d i => run c f (.declsMore (els ++ [d])) i else run c f (.declsMore els) (i + 1))
      else .ok ([.row .decl els], i)) := rfl
theorem run_decl (c : Cx) (f i : Nat) : run c (f + 1) .decl i = (
      if c.kindAt i = 1 then bnd (run c f (.row .variable .var []) (i + 1)) fun vs j => .ok ([.num (-1), .str (c.textAt i)] ++ vs ++ [.num (c.place i)], j)
      else bnd (run c f .plainType i) fun t j => bnd (run c f (.row .variable .var []) j) fun vs j => .ok (t ++ [.str []] ++ vs ++ [.num (c.place i)], j)) := rfl
theorem run_variable (c : Cx) (f i : Nat) : run c (f + 1) .variable i = ( bnd (run c f .name i) fun nm i =>
        if c.keyAt i = [91] then bnd (run c f .index i) fun e i => (if c.keyAt i = [61] then run c f (.beginning (splice zVar 0 (nm ++ [.bit true] ++ e))) (i + 1) else .ok (splice zVar 0 (nm ++ [.bit true] ++ e), i))
        else if c.keyAt i = [61] then run c f (.beginning (splice zVar 0 nm)) (i + 1) else .ok (splice zVar 0 nm, i)) := rfl
theorem run_beginning (c : Cx) (f i : Nat) (v : List D) : run c (f + 1) (.beginning v) i = (
      if c.keyAt i = [91] then bnd (run c f .index i) fun e i => need c [111, 102] i fun i => bnd (run c f (.inBraces .plainType .int) i) fun ts i => .ok (splice v 12 (e ++ [.bit true] ++ ts), i)
      else bnd (run c f .expr i) fun e i => .ok (splice v 11 (.bit true :: e), i)) := rfl
theorem run_body (c : Cx) (f i : Nat) : run c (f + 1) .body i = ( need c [123] i fun i => bnd (run c f .steps i) fun l i => need c [125] i fun i => .ok (l, i)) := rfl
theorem run_steps (c : Cx) (f i : Nat) : run c (f + 1) .steps i = ( bnd (run c f .step i) fun s i => run c f (.stepsMore [s]) i) := rfl
theorem run_stepsMore (c : Cx) (f i : Nat) (els : List (List D)) : run c (f + 1) (.stepsMore els) i = ( match anotherStep c i with
        | .error e => .error e
        | .ok (false, j) => .ok ([.row .stmt els], j)
        | .ok (true, j) => bnd (run c f .step j) fun s i => run c f (.stepsMore (els ++ [s])) i) := rfl
theorem run_step (c : Cx) (f i : Nat) : run c (f + 1) .step i = (
      if isType c i = true ∨ (c.kindAt i = 1 ∧ c.kindAt (i + 1) = 1) then bnd (run c f .decl i) fun d j => .ok (splice (splice zStmt 0 [.num 1, .num (c.place i)]) 22 d, j)
      else bnd (run c f .stmt i) fun s i => if c.keyAt i = [117, 110, 108, 101, 115, 115] then run c f (.unless s) (i + 1) else .ok (s, i)) := rfl
theorem run_unless (c : Cx) (f i : Nat) (s : List D) : run c (f + 1) (.unless s) i = ( bnd (run c f .stmt i) fun t i => .ok (splice (splice zStmt 0 [.num 15, s.getD 1 (.num 0)]) 27 [.row .stmt [s, t]], i)) := rfl
theorem run_stmt (c : Cx) (f i : Nat) : run c (f + 1) .stmt i = (
      let s := splice zStmt 1 [.num (c.place i)]
      if c.kindAt i = 1 then run c f (.namedStmt s) i
      else if c.keyAt i = [123] then bnd (run c f .body i) fun l i => .ok (splice (splice s 0 [.num 14]) 27 l, i)
      else if c.keyAt i = [97, 116, 111, 109, 105, 99] then bnd (run c f .body (i + 1)) fun l i => .ok (splice (splice s 0 [.num 12]) 27 l, i)
      else if c.keyAt i = [100, 95, 115, 116, 101, 112] then bnd (run c f .body (i + 1)) fun l i => .ok (splice (splice s 0 [.num 13]) 27 l, i)
      else if c.keyAt i = [105, 102] then bnd (run c f (.options [102, 105]) i) fun l i => .ok (splice (splice s 0 [.num 7]) 26 l, i)
      else if c.keyAt i = [100, 111] then bnd (run c f (.options [111, 100]) i) fun l i => .ok (splice (splice s 0 [.num 8]) 26 l, i)
      else run c f (.simple s) i) := rfl
theorem run_options (c : Cx) (f i : Nat) (fin : List UInt8) : run c (f + 1) (.options fin) i = ( bnd (run c f .option (i + 1)) fun l i => run c f (.optionsMore fin [l]) i) := rfl
theorem run_optionsMore (c : Cx) (f i : Nat) (fin : List UInt8) (els : List (List D)) : run c (f + 1) (.optionsMore fin els) i = ( if c.keyAt i = fin then .ok ([.row .stmts els], i + 1) else bnd (run c f .option i) fun l i => run c f (.optionsMore fin (els ++ [l])) i) := rfl
theorem run_option (c : Cx) (f i : Nat) : run c (f + 1) .option i = ( need c [58, 58] i fun i => run c f .steps i) := rfl
theorem run_simple (c : Cx) (f i : Nat) (s : List D) : run c (f + 1) (.simple s) i = (
      if c.keyAt i = [98, 114, 101, 97, 107] then .ok (splice s 0 [.num 9], i + 1)
      else if c.keyAt i = [115, 107, 105, 112] then .ok (splice s 0 [.num 19], i + 1)
      else if c.keyAt i = [101, 108, 115, 101] then .ok (splice s 0 [.num 20], i + 1)
      else if c.keyAt i = [103, 111, 116, 111] then bnd (run c f .name (i + 1)) fun nm i => .ok (splice (splice s 0 [.num 10]) 2 nm, i)
      else if c.keyAt i = [97, 115, 115, 101, 114, 116] then run c f (.assertion s) i
      else if c.keyAt i = [112, 114, 105, 110, 116, 102] then run c f (.print s) i
      else bnd (run c f .expr i) fun e i => .ok (splice (splice s 0 [.num 2]) 11 e, i)) := rfl
theorem run_assertion (c : Cx) (f i : Nat) (s : List D) : run c (f + 1) (.assertion s) i = ( need c [97, 115, 115, 101, 114, 116] i fun i => need c [40] i fun i => bnd (run c f .expr i) fun e i => need c [41] i fun i => .ok (splice (splice s 0 [.num 16]) 11 e, i)) := rfl
theorem run_print (c : Cx) (f i : Nat) (s : List D) : run c (f + 1) (.print s) i = ( need c [112, 114, 105, 110, 116, 102] i fun i => need c [40] i fun i =>
        if c.kindAt i = 3 then
          (if c.keyAt (i + 1) = [44] then bnd (run c f (.row .expr .ast []) (i + 2)) fun es j => need c [41] j fun j => .ok (splice (splice (splice s 0 [.num 17]) 3 [.str (c.textAt i)]) 20 es, j)
           else need c [41] (i + 1) fun j => .ok (splice (splice s 0 [.num 17]) 3 [.str (c.textAt i)], j))
        else .error (c.refuse i)) := rfl
theorem run_namedStmt (c : Cx) (f i : Nat) (s : List D) : run c (f + 1) (.namedStmt s) i = (
      if c.keyAt (i + 1) = [58] then bnd (run c f .stmt (i + 2)) fun t j => .ok (splice (splice (splice s 0 [.num 11]) 2 [.str (c.textAt i)]) 27 [.row .stmt [t]], j)
      else if c.keyAt (i + 1) = [40] then bnd (run c f (.inParens .expr .ast) (i + 1)) fun es j => .ok (splice (splice (splice s 0 [.num 18]) 2 [.str (c.textAt i)]) 20 es, j)
      else run c f (.onVariable s) i) := rfl
theorem run_onVariable (c : Cx) (f i : Nat) (s : List D) : run c (f + 1) (.onVariable s) i = ( bnd (run c f .ref i) fun r j =>
        if isPoll c j then bnd (run c f .expr i) fun e j => .ok (splice (splice s 0 [.num 2]) 11 e, j)
        else if c.keyAt j = [61] then bnd (run c f .expr (j + 1)) fun e j => .ok (splice (splice (splice s 0 [.num 3]) 8 r) 11 e, j)
        else if c.keyAt j = [43, 43] then .ok (splice (splice (splice s 0 [.num 4]) 4 [.num 1]) 8 r, j + 1)
        else if c.keyAt j = [45, 45] then .ok (splice (splice (splice s 0 [.num 4]) 4 [.num (-1)]) 8 r, j + 1)
        else if c.keyAt j = [33] ∨ c.keyAt j = [33, 33] then bnd (run c f (.message .expr .ast) (j + 1)) fun es k => .ok (splice (splice (splice (splice s 0 [.num 5]) 5 [.bit (c.keyAt j = [33, 33])]) 8 r) 20 es, k)
        else if c.keyAt j = [63] ∨ c.keyAt j = [63, 63] then run c f (.received (splice (splice (splice s 0 [.num 6]) 6 [.bit (c.keyAt j = [63, 63])]) 8 r)) (j + 1)
        else bnd (run c f .expr i) fun e j => .ok (splice (splice s 0 [.num 2]) 11 e, j)) := rfl
theorem run_received (c : Cx) (f i : Nat) (s : List D) : run c (f + 1) (.received s) i = (
      if c.keyAt i = [60] then bnd (run c f (.message .arg .arg) (i + 1)) fun as i => need c [62] i fun i => .ok (splice (splice s 7 [.bit true]) 21 as, i)
      else bnd (run c f (.message .arg .arg) i) fun as i => .ok (splice (splice s 7 [.bit false]) 21 as, i)) := rfl
theorem run_program (c : Cx) (f i : Nat) (els : List (List D)) : run c (f + 1) (.program els) i = (
      if i < c.T.length then (if c.keyAt i = [59] then run c f (.program els) (i + 1) else bnd (run c f .unit i) fun u i => run c f (.program (els ++ [u])) i) else .ok ([.row .unit els], i)) := rfl
theorem run_unit (c : Cx) (f i : Nat) : run c (f + 1) .unit i = (
      let u := splice zUnit 1 [.num (c.place i)]
      if c.keyAt i = [116, 121, 112, 101, 100, 101, 102] then run c f (.typedef u) i
      else if c.keyAt i = [97, 99, 116, 105, 118, 101] ∨ c.keyAt i = [112, 114, 111, 99, 116, 121, 112, 101] then run c f (.proctype u) i
      else if c.keyAt i = [105, 110, 105, 116] then bnd (run c f .body (i + 1)) fun l i => .ok (splice (splice u 0 [.num 5]) 20 l, i)
      else if c.keyAt i = [110, 101, 118, 101, 114] then bnd (run c f .body (i + 1)) fun l i => .ok (splice (splice u 0 [.num 6]) 20 l, i)
      else if c.keyAt i = [105, 110, 108, 105, 110, 101] then run c f (.inline u) i
      else if c.keyAt i = [108, 116, 108] then run c f (.ltl u) i
      else run c f (.mtypeOrDecl u) i) := rfl
theorem run_mtypeOrDecl (c : Cx) (f i : Nat) (u : List D) : run c (f + 1) (.mtypeOrDecl u) i = (
      if c.keyAt i = [109, 116, 121, 112, 101] ∧ (c.keyAt (i + 1) = [61] ∨ c.keyAt (i + 1) = [123]) then
        bnd (run c f (.inBraces .name .str) (if c.keyAt (i + 1) = [61] then i + 2 else i + 1)) fun ns i => .ok (splice (splice u 0 [.num 1]) 4 ns, i)
      else bnd (run c f .decl i) fun d i => .ok (splice (splice u 0 [.num 2]) 15 d, i)) := rfl
theorem run_typedef (c : Cx) (f i : Nat) (u : List D) : run c (f + 1) (.typedef u) i = ( need c [116, 121, 112, 101, 100, 101, 102] i fun i => bnd (run c f .name i) fun nm i => need c [123] i fun i => bnd (run c f .decls i) fun ds i => need c [125] i fun i => .ok (splice (splice (splice u 0 [.num 3]) 2 nm) 19 ds, i)) := rfl
theorem run_proctype (c : Cx) (f i : Nat) (u : List D) : run c (f + 1) (.proctype u) i = (
      let rest := fun (u : List D) (i : Nat) => need c [112, 114, 111, 99, 116, 121, 112, 101] i fun i => bnd (run c f .name i) fun nm i => need c [40] i fun i =>
        if c.keyAt i = [41] then need c [41] i fun i => bnd (run c f .body i) fun l i => .ok (splice (splice u 2 nm) 20 l, i)
        else bnd (run c f .decls i) fun ds i => need c [41] i fun i => bnd (run c f .body i) fun l i => .ok (splice (splice (splice u 2 nm) 19 ds) 20 l, i)
      if c.keyAt i = [97, 99, 116, 105, 118, 101] then bnd (run c f (.active (splice u 0 [.num 4])) (i + 1)) rest else rest (splice u 0 [.num 4]) i) := rfl
theorem run_active (c : Cx) (f i : Nat) (u : List D) : run c (f + 1) (.active u) i = ( if c.keyAt i = [91] then bnd (run c f .index i) fun e i => .ok (splice u 5 (.bit true :: e), i) else .ok (splice u 5 (.bit true :: aNum 1), i)) := rfl
theorem run_inline (c : Cx) (f i : Nat) (u : List D) : run c (f + 1) (.inline u) i = ( need c [105, 110, 108, 105, 110, 101] i fun i => bnd (run c f .name i) fun nm i => bnd (run c f (.inParens .name .str) i) fun ns i => bnd (run c f .body i) fun l i => .ok (splice (splice (splice (splice u 0 [.num 7]) 2 nm) 4 ns) 20 l, i)) := rfl
theorem run_ltl (c : Cx) (f i : Nat) (u : List D) : run c (f + 1) (.ltl u) i = ( need c [108, 116, 108] i fun i =>
        let rest := fun (u : List D) (i : Nat) => need c [123] i fun j => match braceF c (c.T.length + 2) 1 j with
          | some k => .ok (splice u 3 [.str (((c.text.take (c.place k)).drop (c.place i + 1)))], k + 1)
          | none => .error (21, c.len)
        if c.kindAt i = 1 then rest (splice (splice u 0 [.num 8]) 2 [.str (c.textAt i)]) (i + 1) else rest (splice u 0 [.num 8]) i) := rfl

end Go.Proofs.YthmdgbmodgfcmaaGreatDoor
