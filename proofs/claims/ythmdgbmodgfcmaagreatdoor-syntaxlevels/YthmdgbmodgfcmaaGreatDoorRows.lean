/-
  NARROWER THAN 'FOR EVERY INPUT', by the rows' own cells (each row's printed sentence says how): SyntaxJoins: laid · SyntaxParens: laid · SyntaxLevels: laid · SyntaxDeep: laid.
  DERIVED. THE GIVEN ROWS OF THIS SEAT. 4 by the template 'for every input the law returns true; each argument reads behind the call as it read before'; 0 by the template 'total and deterministic' (their statements: YthmdgbmodgfcmaaGreatDoorTotals.lean).
  GIVEN WITH THE SEED: the statements are not yours to turn. If you find one false, say at which input.
  Laid BY PROGRAM, IN A SANDBOX (cutbox-rows.mjs): the forced cells as the released guide's own fill.sh prints them over the translation 7b2d0a6cc3a8dce5… (all of the seat's roots in one cut). By AI agents, Wed Nov 11 2026. No macro, syntax, notation, axiom, sorry.
-/
import Derived.Test.YthmdgbmodgfcmaaGreatDoorChecked
import GoSem.Claim
import GoSem.ClaimJoined
import GoSem.ClaimMapViews
import Derived.JoinedTies
import Derived.KernelRfl
namespace Go.Proofs.YthmdgbmodgfcmaaGreatDoor
/- THE CELL 'sum', in the pinned program and in every row, IS THE sha256 OF THE DUMP (.gsa) THAT YthmdgbmodgfcmaaGreatDoorProg.lean LOADS. Nothing in Lean hashes anything: it is a label: what it is worth is what the hold of that sum in a sandbox is worth. -/
noncomputable def Tryz.pinned : Pinned := { name := "ythmdgbmodgfcmaagreatdoor", sum := "7b2d0a6cc3a8dce599dc4bd3a614241ae6144cc652c4a3cedfe43bafb2c52ba9", checked := Tryz.checked }
namespace Rows
def none {H : Type} : Left H := { results := [], args := [] }

/- WHAT THE LISTED PACKAGE-LEVEL VARIABLES READ AS WHEN THE CALL BEGINS. Each datum BY PROGRAM (the guide's laid-datum.mjs) off the statement by which the dump's own 'gosem.cut.vars' lays the variable. In a bare row this is a premise. The card (YthmdgbmodgfcmaaGreatDoorCards.lean) ties it to the program's text. -/
def laid_sextant_syntax_typeNames {H : Type} : DataW H := .agg [.lit (.string []), .lit (.string [98, 105, 116]), .lit (.string [98, 111, 111, 108]), .lit (.string [98, 121, 116, 101]), .lit (.string [115, 104, 111, 114, 116]), .lit (.string [105, 110, 116]), .lit (.string [109, 116, 121, 112, 101]), .lit (.string [112, 105, 100]), .lit (.string [99, 104, 97, 110])]

/-- 'sextantlaw03.SyntaxJoins': WHATEVER THE INPUT: true; the input reads as it did. -/
def syntaxJoinsSpec : ChangeSpec := { name := "syntaxJoins", fn := fun _ => fun
  | [d1, d2] => { results := [.lit (.bool true)], args := [d1, d2] }
  | _ => none }
def syntaxJoinsRow : OpenClaim := { program := "ythmdgbmodgfcmaagreatdoor", sum := "7b2d0a6cc3a8dce599dc4bd3a614241ae6144cc652c4a3cedfe43bafb2c52ba9", func := "sextant/sextantlaw03.SyntaxJoins", spec := "syntaxJoins", inPlace := ["internal/bytealg.IndexByteString", "internal/bytealg.IndexString"], unfollowed := true, recurses := true, named := ["internal/bytealg.MaxLen", "sextant/syntax.typeNames"], apart := false, laid := [("sextant/syntax.typeNames", laid_sextant_syntax_typeNames)] }
def SyntaxJoinsSaid : Prop := syntaxJoinsRow.holds Tryz.pinned (OpenSpec.ofChange syntaxJoinsSpec)

/-- ITS FALSE NEIGHBOUR: 'it returns false'. Refute it at one input. -/
def syntaxJoinsWrong : ChangeSpec := { name := "syntaxJoins", fn := fun _ => fun
  | [d1, d2] => { results := [.lit (.bool false)], args := [d1, d2] }
  | _ => none }
def SyntaxJoinsWrongFalsely : Prop := syntaxJoinsRow.holds Tryz.pinned (OpenSpec.ofChange syntaxJoinsWrong)

/-- 'sextantlaw03.SyntaxParens': WHATEVER THE INPUT: true; the input reads as it did. -/
def syntaxParensSpec : ChangeSpec := { name := "syntaxParens", fn := fun _ => fun
  | [d] => { results := [.lit (.bool true)], args := [d] }
  | _ => none }
def syntaxParensRow : OpenClaim := { program := "ythmdgbmodgfcmaagreatdoor", sum := "7b2d0a6cc3a8dce599dc4bd3a614241ae6144cc652c4a3cedfe43bafb2c52ba9", func := "sextant/sextantlaw03.SyntaxParens", spec := "syntaxParens", inPlace := ["internal/bytealg.IndexByteString", "internal/bytealg.IndexString"], unfollowed := true, recurses := true, named := ["internal/bytealg.MaxLen", "sextant/syntax.typeNames"], apart := false, laid := [("sextant/syntax.typeNames", laid_sextant_syntax_typeNames)] }
def SyntaxParensSaid : Prop := syntaxParensRow.holds Tryz.pinned (OpenSpec.ofChange syntaxParensSpec)

/-- ITS FALSE NEIGHBOUR: 'it returns false'. Refute it at one input. -/
def syntaxParensWrong : ChangeSpec := { name := "syntaxParens", fn := fun _ => fun
  | [d] => { results := [.lit (.bool false)], args := [d] }
  | _ => none }
def SyntaxParensWrongFalsely : Prop := syntaxParensRow.holds Tryz.pinned (OpenSpec.ofChange syntaxParensWrong)

/-- 'sextantlaw03.SyntaxLevels': WHATEVER THE INPUT: true; the input reads as it did. -/
def syntaxLevelsSpec : ChangeSpec := { name := "syntaxLevels", fn := fun _ => fun
  | [d1, d2] => { results := [.lit (.bool true)], args := [d1, d2] }
  | _ => none }
def syntaxLevelsRow : OpenClaim := { program := "ythmdgbmodgfcmaagreatdoor", sum := "7b2d0a6cc3a8dce599dc4bd3a614241ae6144cc652c4a3cedfe43bafb2c52ba9", func := "sextant/sextantlaw03.SyntaxLevels", spec := "syntaxLevels", inPlace := ["internal/bytealg.IndexByteString", "internal/bytealg.IndexString"], unfollowed := true, recurses := true, named := ["internal/bytealg.MaxLen", "sextant/syntax.typeNames"], apart := false, laid := [("sextant/syntax.typeNames", laid_sextant_syntax_typeNames)] }
def SyntaxLevelsSaid : Prop := syntaxLevelsRow.holds Tryz.pinned (OpenSpec.ofChange syntaxLevelsSpec)

/-- ITS FALSE NEIGHBOUR: 'it returns false'. Refute it at one input. -/
def syntaxLevelsWrong : ChangeSpec := { name := "syntaxLevels", fn := fun _ => fun
  | [d1, d2] => { results := [.lit (.bool false)], args := [d1, d2] }
  | _ => none }
def SyntaxLevelsWrongFalsely : Prop := syntaxLevelsRow.holds Tryz.pinned (OpenSpec.ofChange syntaxLevelsWrong)

/-- 'sextantlaw03.SyntaxDeep': WHATEVER THE INPUT: true; the input reads as it did. -/
def syntaxDeepSpec : ChangeSpec := { name := "syntaxDeep", fn := fun _ => fun
  | [d1, d2] => { results := [.lit (.bool true)], args := [d1, d2] }
  | _ => none }
def syntaxDeepRow : OpenClaim := { program := "ythmdgbmodgfcmaagreatdoor", sum := "7b2d0a6cc3a8dce599dc4bd3a614241ae6144cc652c4a3cedfe43bafb2c52ba9", func := "sextant/sextantlaw03.SyntaxDeep", spec := "syntaxDeep", inPlace := ["internal/bytealg.IndexByteString", "internal/bytealg.IndexString"], unfollowed := true, recurses := true, named := ["internal/bytealg.MaxLen", "sextant/syntax.typeNames"], apart := false, laid := [("sextant/syntax.typeNames", laid_sextant_syntax_typeNames)] }
def SyntaxDeepSaid : Prop := syntaxDeepRow.holds Tryz.pinned (OpenSpec.ofChange syntaxDeepSpec)

/-- ITS FALSE NEIGHBOUR: 'it returns false'. Refute it at one input. -/
def syntaxDeepWrong : ChangeSpec := { name := "syntaxDeep", fn := fun _ => fun
  | [d1, d2] => { results := [.lit (.bool false)], args := [d1, d2] }
  | _ => none }
def SyntaxDeepWrongFalsely : Prop := syntaxDeepRow.holds Tryz.pinned (OpenSpec.ofChange syntaxDeepWrong)

/- THE SECOND FORM. 'bulk': how many values and letters a reading holds, each counted each time it is reached (what is shared counts as often as it is met; a slice's spare places count too). A statement '..UptoSaid' is the law's where the arguments, and the package variables that the reading takes, are together of bulk at most 1048576: NARROWER than '..Said'. Prove '..Said' where nothing that the law and all that it calls make is longer than what came in: it says more and counts as full. Else prove '..UptoSaid'. A law counts once. -/
mutual
def uptoBulk {H : Type} : DataW H → Nat
  | .lit (.string bytes) => bytes.length + 1
  | .lit _ => 1
  | .nil => 1
  | .ptr d => uptoBulk d + 1
  | .slice elems spare => uptoBulkAll elems + uptoBulkAll spare + 1
  | .agg parts => uptoBulkAll parts + 1
  | .iface _ d => uptoBulk d + 1
  | .map entries => uptoBulkEntries entries + 1
  | .held _ => 1
def uptoBulkAll {H : Type} : List (DataW H) → Nat
  | [] => 0
  | d :: r => uptoBulk d + uptoBulkAll r
def uptoBulkEntries {H : Type} : List (Lit × DataW H) → Nat
  | [] => 0
  | x :: r => uptoBulkEntry x + uptoBulkEntries r
def uptoBulkEntry {H : Type} : Lit × DataW H → Nat
  | (.string bytes, d) => bytes.length + uptoBulk d + 1
  | (_, d) => uptoBulk d + 1
 end
def uptoSmall : (H : Type) → List (DataW H) → Bool := fun _ ds => decide (uptoBulkAll ds ≤ 1048576)
def OpenSpec.upto (s : _root_.Go.ChangeSpec) : _root_.Go.OpenSpec := { _root_.Go.OpenSpec.ofChange s with cond := some uptoSmall }

/-- 'sextantlaw03.SyntaxJoins', WHERE WHAT IT READS IS OF BULK AT MOST 1048576: true; the input reads as it did. -/
def syntaxJoinsUptoRow : OpenClaim := { program := "ythmdgbmodgfcmaagreatdoor", sum := "7b2d0a6cc3a8dce599dc4bd3a614241ae6144cc652c4a3cedfe43bafb2c52ba9", func := "sextant/sextantlaw03.SyntaxJoins", spec := "syntaxJoins", inPlace := ["internal/bytealg.IndexByteString", "internal/bytealg.IndexString"], unfollowed := true, recurses := true, named := ["internal/bytealg.MaxLen", "sextant/syntax.typeNames"], apart := false, laid := [("sextant/syntax.typeNames", laid_sextant_syntax_typeNames)], narrowed := true }
def SyntaxJoinsUptoSaid : Prop := syntaxJoinsUptoRow.holds Tryz.pinned (OpenSpec.upto syntaxJoinsSpec)

/-- 'sextantlaw03.SyntaxParens', WHERE WHAT IT READS IS OF BULK AT MOST 1048576: true; the input reads as it did. -/
def syntaxParensUptoRow : OpenClaim := { program := "ythmdgbmodgfcmaagreatdoor", sum := "7b2d0a6cc3a8dce599dc4bd3a614241ae6144cc652c4a3cedfe43bafb2c52ba9", func := "sextant/sextantlaw03.SyntaxParens", spec := "syntaxParens", inPlace := ["internal/bytealg.IndexByteString", "internal/bytealg.IndexString"], unfollowed := true, recurses := true, named := ["internal/bytealg.MaxLen", "sextant/syntax.typeNames"], apart := false, laid := [("sextant/syntax.typeNames", laid_sextant_syntax_typeNames)], narrowed := true }
def SyntaxParensUptoSaid : Prop := syntaxParensUptoRow.holds Tryz.pinned (OpenSpec.upto syntaxParensSpec)

/-- 'sextantlaw03.SyntaxLevels', WHERE WHAT IT READS IS OF BULK AT MOST 1048576: true; the input reads as it did. -/
def syntaxLevelsUptoRow : OpenClaim := { program := "ythmdgbmodgfcmaagreatdoor", sum := "7b2d0a6cc3a8dce599dc4bd3a614241ae6144cc652c4a3cedfe43bafb2c52ba9", func := "sextant/sextantlaw03.SyntaxLevels", spec := "syntaxLevels", inPlace := ["internal/bytealg.IndexByteString", "internal/bytealg.IndexString"], unfollowed := true, recurses := true, named := ["internal/bytealg.MaxLen", "sextant/syntax.typeNames"], apart := false, laid := [("sextant/syntax.typeNames", laid_sextant_syntax_typeNames)], narrowed := true }
def SyntaxLevelsUptoSaid : Prop := syntaxLevelsUptoRow.holds Tryz.pinned (OpenSpec.upto syntaxLevelsSpec)

/-- 'sextantlaw03.SyntaxDeep', WHERE WHAT IT READS IS OF BULK AT MOST 1048576: true; the input reads as it did. -/
def syntaxDeepUptoRow : OpenClaim := { program := "ythmdgbmodgfcmaagreatdoor", sum := "7b2d0a6cc3a8dce599dc4bd3a614241ae6144cc652c4a3cedfe43bafb2c52ba9", func := "sextant/sextantlaw03.SyntaxDeep", spec := "syntaxDeep", inPlace := ["internal/bytealg.IndexByteString", "internal/bytealg.IndexString"], unfollowed := true, recurses := true, named := ["internal/bytealg.MaxLen", "sextant/syntax.typeNames"], apart := false, laid := [("sextant/syntax.typeNames", laid_sextant_syntax_typeNames)], narrowed := true }
def SyntaxDeepUptoSaid : Prop := syntaxDeepUptoRow.holds Tryz.pinned (OpenSpec.upto syntaxDeepSpec)

end Rows
end Go.Proofs.YthmdgbmodgfcmaaGreatDoor
