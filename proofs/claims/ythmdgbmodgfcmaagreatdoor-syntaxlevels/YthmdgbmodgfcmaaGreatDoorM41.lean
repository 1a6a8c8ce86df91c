/-
  SAll.
-/
import Derived.Test.YthmdgbmodgfcmaaGreatDoorM17
import Derived.Test.YthmdgbmodgfcmaaGreatDoorM19
import Derived.Test.YthmdgbmodgfcmaaGreatDoorM20
import Derived.Test.YthmdgbmodgfcmaaGreatDoorM21
import Derived.Test.YthmdgbmodgfcmaaGreatDoorM22
import Derived.Test.YthmdgbmodgfcmaaGreatDoorM23
import Derived.Test.YthmdgbmodgfcmaaGreatDoorM24
import Derived.Test.YthmdgbmodgfcmaaGreatDoorM25
import Derived.Test.YthmdgbmodgfcmaaGreatDoorM26
import Derived.Test.YthmdgbmodgfcmaaGreatDoorM27
import Derived.Test.YthmdgbmodgfcmaaGreatDoorM29
import Derived.Test.YthmdgbmodgfcmaaGreatDoorM31
import Derived.Test.YthmdgbmodgfcmaaGreatDoorM32
import Derived.Test.YthmdgbmodgfcmaaGreatDoorM37
import Derived.Test.YthmdgbmodgfcmaaGreatDoorM38
/-
  All that the reader's functions do, whatever the fuel.
-/
namespace Go.Proofs.YthmdgbmodgfcmaaGreatDoor
open Go.RowKit

theorem sp_zero (E : Env) : Sp E 0 where
  name := fun _ _ h => absurd rfl h
  expr := fun _ h => absurd rfl h
  operators := fun _ _ _ _ h => absurd rfl h
  unary := fun _ h => absurd rfl h
  primary := fun _ h => absurd rfl h
  parens := fun _ h => absurd rfl h
  cond := fun _ _ _ h => absurd rfl h
  run := fun _ h => absurd rfl h
  length := fun _ _ h => absurd rfl h
  named := fun _ h => absurd rfl h
  label := fun _ _ _ _ h => absurd rfl h
  poll := fun _ _ _ _ _ h => absurd rfl h
  ref := fun _ h => absurd rfl h
  part := fun _ _ _ _ _ _ _ h => absurd rfl h
  index := fun _ h => absurd rfl h
  arg := fun _ h => absurd rfl h
  rowStr := fun _ _ _ h => absurd rfl h
  rowAst := fun _ _ _ h => absurd rfl h
  rowArg := fun _ _ _ h => absurd rfl h
  rowVar := fun _ _ _ h => absurd rfl h
  rowInt := fun _ _ _ h => absurd rfl h
  inParStr := fun _ h => absurd rfl h
  inParAst := fun _ h => absurd rfl h
  inBrStr := fun _ h => absurd rfl h
  inBrInt := fun _ h => absurd rfl h
  msgAst := fun _ h => absurd rfl h
  msgArg := fun _ h => absurd rfl h
  plainType := fun _ h => absurd rfl h
  decls := fun _ h => absurd rfl h
  decl := fun _ h => absurd rfl h
  vari := fun _ h => absurd rfl h
  beginning := fun _ _ _ _ h => absurd rfl h
  body := fun _ h => absurd rfl h
  steps := fun _ h => absurd rfl h
  step := fun _ h => absurd rfl h
  unles := fun _ _ _ _ _ _ h => absurd rfl h
  stmt := fun _ h => absurd rfl h
  options := fun _ _ _ _ h => absurd rfl h
  option := fun _ h => absurd rfl h
  simple := fun _ _ h => absurd rfl h
  assertion := fun _ _ h => absurd rfl h
  print := fun _ _ h => absurd rfl h
  namedStmt := fun _ _ _ h => absurd rfl h
  onVariable := fun _ _ _ h => absurd rfl h
  received := fun _ _ _ _ _ h => absurd rfl h
  program := fun _ h => absurd rfl h
  unit := fun _ h => absurd rfl h
  mtypeOrDecl := fun _ _ h => absurd rfl h
  typedef := fun _ _ h => absurd rfl h
  proctype := fun _ _ h => absurd rfl h
  active := fun _ _ h => absurd rfl h
  inline := fun _ _ h => absurd rfl h
  ltl := fun _ _ _ h => absurd rfl h

theorem sp_succ (E : Env) (hu : ¬ ∃ i, E.c.keyAt i = [117, 110, 108, 101, 115, 115]) (hl : ¬ ∃ i, E.c.keyAt i = [108, 116, 108]) (f : Nat) (hf : f + 1 ≤ 1000000) (ih : ∀ f', f' ≤ f → Sp E f') : Sp E (f + 1) :=
  have i1 := ih f (Nat.le_refl _)
  { name := fun s0 i _ => name_reads E f i s0
    expr := expr_does E f i1
    operators := operators_does E f ih
    unary := unary_does E f i1
    primary := primary_does E f i1
    parens := parens_does E f i1
    cond := cond_does E f i1
    run := run_does E f i1
    length := length_does E f i1
    named := named_does E f i1
    label := label_does E f i1
    poll := poll_does E f i1
    ref := ref_does E f hf ih
    part := part_does E f i1
    index := index_does E f i1
    arg := arg_does E f i1
    rowStr := rowString_does E f ih
    rowAst := rowAst_does E f ih
    rowArg := rowArg_does E f ih
    rowVar := rowDeclVar_does E f ih
    rowInt := rowInt_does E f ih
    inParStr := inParensString_does E f hf i1
    inParAst := inParensAst_does E f hf i1
    inBrStr := inBracesString_does E f hf i1
    inBrInt := inBracesInt_does E f hf i1
    msgAst := messageAst_does E f hf i1
    msgArg := messageArg_does E f hf i1
    plainType := plainType_does E f
    decls := decls_does E f hf ih
    decl := decl_does E f hf i1
    vari := variable_does E f i1
    beginning := beginning_does E f i1
    body := body_does E f i1
    steps := steps_does E f hf ih
    step := step_does E f i1
    unles := fun h => absurd h hu
    stmt := stmt_does E f i1
    options := options_does E f hf ih
    option := option_does E f i1
    simple := simple_does E f i1
    assertion := assertion_does E f i1
    print := print_does E f hf i1
    namedStmt := namedStmt_does E f i1
    onVariable := onVariable_does E f i1
    received := received_does E f i1
    program := program_does E f hf ih
    unit := unit_does E f i1
    mtypeOrDecl := mtypeOrDecl_does E f i1
    typedef := typedef_does E f i1
    proctype := proctype_does E f i1
    active := active_does E f i1
    inline := inline_does E f i1
    ltl := fun h => absurd h hl }

theorem sp_all (E : Env) (hu : ¬ ∃ i, E.c.keyAt i = [117, 110, 108, 101, 115, 115]) (hl : ¬ ∃ i, E.c.keyAt i = [108, 116, 108]) : ∀ f, f ≤ 1000000 → Sp E f := by
  intro f
  induction f using Nat.strongRecOn with
  | _ f ih =>
    intro hf
    cases f with
    | zero => exact sp_zero E
    | succ f => exact sp_succ E hu hl f hf (fun f' h' => ih f' (by omega) (by omega))

end Go.Proofs.YthmdgbmodgfcmaaGreatDoor
