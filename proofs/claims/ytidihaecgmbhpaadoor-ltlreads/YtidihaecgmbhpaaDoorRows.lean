/-
  NARROWER THAN 'FOR EVERY INPUT', by the rows' own cells (each row's printed sentence says how): LtlReads: laid · LtlPrints: loops, laid · LtlNormal: loops, laid · LtlBack: loops, laid.
  DERIVED. THE GIVEN ROWS OF THIS SEAT. 4 by the template 'for every input the law returns true; each argument reads behind the call as it read before'; 0 by the template 'total and deterministic' (their statements: YtidihaecgmbhpaaDoorTotals.lean).
  GIVEN WITH THE SEED: the statements are not yours to turn. If you find one false, say at which input.
  Laid BY PROGRAM, IN A SANDBOX (cutbox-rows.mjs): the forced cells as the released guide's own fill.sh prints them over the translation 4c523f6e1baf9725… (all of the seat's roots in one cut). By AI agents, Wed Nov 11 2026. No macro, syntax, notation, axiom, sorry.
-/
import Derived.Test.YtidihaecgmbhpaaDoorChecked
import GoSem.Claim
import GoSem.ClaimJoined
import GoSem.ClaimMapViews
import Derived.JoinedTies
import Derived.KernelRfl
namespace Go.Proofs.YtidihaecgmbhpaaDoor
/- THE CELL 'sum', in the pinned program and in every row, IS THE sha256 OF THE DUMP (.gsa) THAT YtidihaecgmbhpaaDoorProg.lean LOADS. Nothing in Lean hashes anything: it is a label: what it is worth is what the hold of that sum in a sandbox is worth. -/
noncomputable def Tryd.pinned : Pinned := { name := "ytidihaecgmbhpaadoor", sum := "4c523f6e1baf9725e5438bca157a58cbda0c84737a52fc80ffadbdec463e73ac", checked := Tryd.checked }
namespace Rows
def none {H : Type} : Left H := { results := [], args := [] }

/- WHAT THE LISTED PACKAGE-LEVEL VARIABLES READ AS WHEN THE CALL BEGINS. Each datum BY PROGRAM (the guide's laid-datum.mjs) off the statement by which the dump's own 'gosem.cut.vars' lays the variable. In a bare row this is a premise. The card (YtidihaecgmbhpaaDoorCards.lean) ties it to the program's text. -/
def laid_sextant_ltl_shapes {H : Type} : DataW H := .agg [.agg [.lit (.string []), .lit (.int .i64 0), .lit (.int .i64 0), .lit (.int .i64 0), .lit (.int .i64 0)], .agg [.lit (.string [116, 114, 117, 101]), .lit (.int .i64 0), .lit (.int .i64 6), .lit (.int .i64 0), .lit (.int .i64 0)], .agg [.lit (.string [102, 97, 108, 115, 101]), .lit (.int .i64 0), .lit (.int .i64 6), .lit (.int .i64 0), .lit (.int .i64 0)], .agg [.lit (.string []), .lit (.int .i64 0), .lit (.int .i64 6), .lit (.int .i64 0), .lit (.int .i64 0)], .agg [.lit (.string [33]), .lit (.int .i64 1), .lit (.int .i64 5), .lit (.int .i64 0), .lit (.int .i64 5)], .agg [.lit (.string [88, 32]), .lit (.int .i64 1), .lit (.int .i64 5), .lit (.int .i64 0), .lit (.int .i64 5)], .agg [.lit (.string [91, 93, 32]), .lit (.int .i64 1), .lit (.int .i64 5), .lit (.int .i64 0), .lit (.int .i64 5)], .agg [.lit (.string [60, 62, 32]), .lit (.int .i64 1), .lit (.int .i64 5), .lit (.int .i64 0), .lit (.int .i64 5)], .agg [.lit (.string [32, 38, 38, 32]), .lit (.int .i64 2), .lit (.int .i64 3), .lit (.int .i64 3), .lit (.int .i64 4)], .agg [.lit (.string [32, 124, 124, 32]), .lit (.int .i64 2), .lit (.int .i64 2), .lit (.int .i64 2), .lit (.int .i64 3)], .agg [.lit (.string [32, 45, 62, 32]), .lit (.int .i64 2), .lit (.int .i64 1), .lit (.int .i64 2), .lit (.int .i64 1)], .agg [.lit (.string [32, 60, 45, 62, 32]), .lit (.int .i64 2), .lit (.int .i64 0), .lit (.int .i64 1), .lit (.int .i64 0)], .agg [.lit (.string [32, 85, 32]), .lit (.int .i64 2), .lit (.int .i64 4), .lit (.int .i64 5), .lit (.int .i64 4)], .agg [.lit (.string [32, 86, 32]), .lit (.int .i64 2), .lit (.int .i64 4), .lit (.int .i64 5), .lit (.int .i64 4)], .agg [.lit (.string [32, 87, 32]), .lit (.int .i64 2), .lit (.int .i64 4), .lit (.int .i64 5), .lit (.int .i64 4)]]
def laid_sextant_ltl_signs {H : Type} : DataW H := .agg [.agg [.lit (.string [91, 93]), .lit (.int .i64 6)], .agg [.lit (.string [60, 62]), .lit (.int .i64 7)], .agg [.lit (.string [60, 45, 62]), .lit (.int .i64 11)], .agg [.lit (.string [45, 62]), .lit (.int .i64 10)], .agg [.lit (.string [33]), .lit (.int .i64 4)], .agg [.lit (.string [38, 38]), .lit (.int .i64 8)], .agg [.lit (.string [47, 92]), .lit (.int .i64 8)], .agg [.lit (.string [124, 124]), .lit (.int .i64 9)], .agg [.lit (.string [92, 47]), .lit (.int .i64 9)], .agg [.lit (.string [40]), .lit (.int .i64 (-1))], .agg [.lit (.string [41]), .lit (.int .i64 (-2))]]
def laid_sextant_ltl_reserved {H : Type} : DataW H := .agg [.agg [.lit (.string [116, 114, 117, 101]), .lit (.int .i64 1)], .agg [.lit (.string [102, 97, 108, 115, 101]), .lit (.int .i64 2)], .agg [.lit (.string [88]), .lit (.int .i64 5)], .agg [.lit (.string [85]), .lit (.int .i64 12)], .agg [.lit (.string [86]), .lit (.int .i64 13)], .agg [.lit (.string [87]), .lit (.int .i64 14)], .agg [.lit (.string [97, 108, 119, 97, 121, 115]), .lit (.int .i64 6)], .agg [.lit (.string [101, 118, 101, 110, 116, 117, 97, 108, 108, 121]), .lit (.int .i64 7)], .agg [.lit (.string [110, 101, 120, 116]), .lit (.int .i64 5)], .agg [.lit (.string [117, 110, 116, 105, 108]), .lit (.int .i64 12)], .agg [.lit (.string [114, 101, 108, 101, 97, 115, 101]), .lit (.int .i64 13)], .agg [.lit (.string [119, 101, 97, 107, 117, 110, 116, 105, 108]), .lit (.int .i64 14)]]

/-- 'sextantlaw09.LtlReads': WHATEVER THE INPUT: true; the input reads as it did. -/
def ltlReadsSpec : ChangeSpec := { name := "ltlReads", fn := fun _ => fun
  | [d] => { results := [.lit (.bool true)], args := [d] }
  | _ => none }
def ltlReadsRow : OpenClaim := { program := "ytidihaecgmbhpaadoor", sum := "4c523f6e1baf9725e5438bca157a58cbda0c84737a52fc80ffadbdec463e73ac", func := "sextant/sextantlaw09.LtlReads", spec := "ltlReads", unfollowed := true, recurses := true, named := ["sextant/ltl.signs", "sextant/ltl.reserved", "sextant/ltl.shapes"], plainKeys := false, apart := false, laid := [("sextant/ltl.shapes", laid_sextant_ltl_shapes), ("sextant/ltl.signs", laid_sextant_ltl_signs), ("sextant/ltl.reserved", laid_sextant_ltl_reserved)] }
def LtlReadsSaid : Prop := ltlReadsRow.holds Tryd.pinned (OpenSpec.ofChange ltlReadsSpec)

/-- ITS FALSE NEIGHBOUR: 'it returns false'. Refute it at one input. -/
def ltlReadsWrong : ChangeSpec := { name := "ltlReads", fn := fun _ => fun
  | [d] => { results := [.lit (.bool false)], args := [d] }
  | _ => none }
def LtlReadsWrongFalsely : Prop := ltlReadsRow.holds Tryd.pinned (OpenSpec.ofChange ltlReadsWrong)

/-- 'sextantlaw09.LtlPrints': WHATEVER THE INPUT: true; the input reads as it did. -/
def ltlPrintsSpec : ChangeSpec := { name := "ltlPrints", fn := fun _ => fun
  | [d] => { results := [.lit (.bool true)], args := [d] }
  | _ => none }
def ltlPrintsRow : OpenClaim := { program := "ytidihaecgmbhpaadoor", sum := "4c523f6e1baf9725e5438bca157a58cbda0c84737a52fc80ffadbdec463e73ac", func := "sextant/sextantlaw09.LtlPrints", spec := "ltlPrints", unfollowed := true, recurses := true, named := ["sextant/ltl.signs", "sextant/ltl.reserved", "sextant/ltl.shapes"], loops := true, plainKeys := false, apart := false, laid := [("sextant/ltl.shapes", laid_sextant_ltl_shapes), ("sextant/ltl.signs", laid_sextant_ltl_signs), ("sextant/ltl.reserved", laid_sextant_ltl_reserved)] }
def LtlPrintsSaid : Prop := ltlPrintsRow.holds Tryd.pinned (OpenSpec.ofChange ltlPrintsSpec)

/-- ITS FALSE NEIGHBOUR: 'it returns false'. Refute it at one input. -/
def ltlPrintsWrong : ChangeSpec := { name := "ltlPrints", fn := fun _ => fun
  | [d] => { results := [.lit (.bool false)], args := [d] }
  | _ => none }
def LtlPrintsWrongFalsely : Prop := ltlPrintsRow.holds Tryd.pinned (OpenSpec.ofChange ltlPrintsWrong)

/-- 'sextantlaw09.LtlNormal': WHATEVER THE INPUT: true; the input reads as it did. -/
def ltlNormalSpec : ChangeSpec := { name := "ltlNormal", fn := fun _ => fun
  | [d] => { results := [.lit (.bool true)], args := [d] }
  | _ => none }
def ltlNormalRow : OpenClaim := { program := "ytidihaecgmbhpaadoor", sum := "4c523f6e1baf9725e5438bca157a58cbda0c84737a52fc80ffadbdec463e73ac", func := "sextant/sextantlaw09.LtlNormal", spec := "ltlNormal", unfollowed := true, recurses := true, named := ["sextant/ltl.signs", "sextant/ltl.reserved", "sextant/ltl.shapes"], loops := true, plainKeys := false, apart := false, laid := [("sextant/ltl.shapes", laid_sextant_ltl_shapes), ("sextant/ltl.signs", laid_sextant_ltl_signs), ("sextant/ltl.reserved", laid_sextant_ltl_reserved)] }
def LtlNormalSaid : Prop := ltlNormalRow.holds Tryd.pinned (OpenSpec.ofChange ltlNormalSpec)

/-- ITS FALSE NEIGHBOUR: 'it returns false'. Refute it at one input. -/
def ltlNormalWrong : ChangeSpec := { name := "ltlNormal", fn := fun _ => fun
  | [d] => { results := [.lit (.bool false)], args := [d] }
  | _ => none }
def LtlNormalWrongFalsely : Prop := ltlNormalRow.holds Tryd.pinned (OpenSpec.ofChange ltlNormalWrong)

/-- 'sextantlaw09.LtlBack': WHATEVER THE INPUT: true; the input reads as it did. -/
def ltlBackSpec : ChangeSpec := { name := "ltlBack", fn := fun _ => fun
  | [d1, d2] => { results := [.lit (.bool true)], args := [d1, d2] }
  | _ => none }
def ltlBackRow : OpenClaim := { program := "ytidihaecgmbhpaadoor", sum := "4c523f6e1baf9725e5438bca157a58cbda0c84737a52fc80ffadbdec463e73ac", func := "sextant/sextantlaw09.LtlBack", spec := "ltlBack", unfollowed := true, recurses := true, named := ["sextant/ltl.signs", "sextant/ltl.reserved", "sextant/ltl.shapes"], loops := true, plainKeys := false, apart := false, laid := [("sextant/ltl.shapes", laid_sextant_ltl_shapes), ("sextant/ltl.signs", laid_sextant_ltl_signs), ("sextant/ltl.reserved", laid_sextant_ltl_reserved)] }
def LtlBackSaid : Prop := ltlBackRow.holds Tryd.pinned (OpenSpec.ofChange ltlBackSpec)

/-- ITS FALSE NEIGHBOUR: 'it returns false'. Refute it at one input. -/
def ltlBackWrong : ChangeSpec := { name := "ltlBack", fn := fun _ => fun
  | [d1, d2] => { results := [.lit (.bool false)], args := [d1, d2] }
  | _ => none }
def LtlBackWrongFalsely : Prop := ltlBackRow.holds Tryd.pinned (OpenSpec.ofChange ltlBackWrong)

/- THE SECOND FORM. 'bulk': how many values and letters a reading holds, each counted each time it is reached (what is shared counts as often as it is met; a slice's spare places count too). A statement '..UptoSaid' is the law's where the arguments, and the package variables that the reading takes, are together of bulk at most 1048576: NARROWER than '..Said'. Prove '..Said' where nothing that the law and all that it calls make is longer than what came in: it says more and counts as full. Else prove '..UptoSaid'. A law counts once. -/
mutual
def uptoBulk {H : Type} : DataW H → Nat
  | .lit (.string bytes) => bytes.length + 1
  | .lit _ => 1
  | .nil => 1
  | .ptr d => uptoBulk d + 1
  | .slice elems spare => uptoBulkAll elems + uptoBulkAll spare + 1
  | .agg parts => uptoBulkAll parts + 1
  | .iface _ d => uptoBulk d + 1
  | .map entries => uptoBulkEntries entries + 1
  | .held _ => 1
def uptoBulkAll {H : Type} : List (DataW H) → Nat
  | [] => 0
  | d :: r => uptoBulk d + uptoBulkAll r
def uptoBulkEntries {H : Type} : List (Lit × DataW H) → Nat
  | [] => 0
  | x :: r => uptoBulkEntry x + uptoBulkEntries r
def uptoBulkEntry {H : Type} : Lit × DataW H → Nat
  | (.string bytes, d) => bytes.length + uptoBulk d + 1
  | (_, d) => uptoBulk d + 1
 end
def uptoSmall : (H : Type) → List (DataW H) → Bool := fun _ ds => decide (uptoBulkAll ds ≤ 1048576)
def OpenSpec.upto (s : _root_.Go.ChangeSpec) : _root_.Go.OpenSpec := { _root_.Go.OpenSpec.ofChange s with cond := some uptoSmall }

/-- 'sextantlaw09.LtlReads', WHERE WHAT IT READS IS OF BULK AT MOST 1048576: true; the input reads as it did. -/
def ltlReadsUptoRow : OpenClaim := { program := "ytidihaecgmbhpaadoor", sum := "4c523f6e1baf9725e5438bca157a58cbda0c84737a52fc80ffadbdec463e73ac", func := "sextant/sextantlaw09.LtlReads", spec := "ltlReads", unfollowed := true, recurses := true, named := ["sextant/ltl.signs", "sextant/ltl.reserved", "sextant/ltl.shapes"], plainKeys := false, apart := false, laid := [("sextant/ltl.shapes", laid_sextant_ltl_shapes), ("sextant/ltl.signs", laid_sextant_ltl_signs), ("sextant/ltl.reserved", laid_sextant_ltl_reserved)], narrowed := true }
def LtlReadsUptoSaid : Prop := ltlReadsUptoRow.holds Tryd.pinned (OpenSpec.upto ltlReadsSpec)

/-- 'sextantlaw09.LtlPrints', WHERE WHAT IT READS IS OF BULK AT MOST 1048576: true; the input reads as it did. -/
def ltlPrintsUptoRow : OpenClaim := { program := "ytidihaecgmbhpaadoor", sum := "4c523f6e1baf9725e5438bca157a58cbda0c84737a52fc80ffadbdec463e73ac", func := "sextant/sextantlaw09.LtlPrints", spec := "ltlPrints", unfollowed := true, recurses := true, named := ["sextant/ltl.signs", "sextant/ltl.reserved", "sextant/ltl.shapes"], loops := true, plainKeys := false, apart := false, laid := [("sextant/ltl.shapes", laid_sextant_ltl_shapes), ("sextant/ltl.signs", laid_sextant_ltl_signs), ("sextant/ltl.reserved", laid_sextant_ltl_reserved)], narrowed := true }
def LtlPrintsUptoSaid : Prop := ltlPrintsUptoRow.holds Tryd.pinned (OpenSpec.upto ltlPrintsSpec)

/-- 'sextantlaw09.LtlNormal', WHERE WHAT IT READS IS OF BULK AT MOST 1048576: true; the input reads as it did. -/
def ltlNormalUptoRow : OpenClaim := { program := "ytidihaecgmbhpaadoor", sum := "4c523f6e1baf9725e5438bca157a58cbda0c84737a52fc80ffadbdec463e73ac", func := "sextant/sextantlaw09.LtlNormal", spec := "ltlNormal", unfollowed := true, recurses := true, named := ["sextant/ltl.signs", "sextant/ltl.reserved", "sextant/ltl.shapes"], loops := true, plainKeys := false, apart := false, laid := [("sextant/ltl.shapes", laid_sextant_ltl_shapes), ("sextant/ltl.signs", laid_sextant_ltl_signs), ("sextant/ltl.reserved", laid_sextant_ltl_reserved)], narrowed := true }
def LtlNormalUptoSaid : Prop := ltlNormalUptoRow.holds Tryd.pinned (OpenSpec.upto ltlNormalSpec)

/-- 'sextantlaw09.LtlBack', WHERE WHAT IT READS IS OF BULK AT MOST 1048576: true; the input reads as it did. -/
def ltlBackUptoRow : OpenClaim := { program := "ytidihaecgmbhpaadoor", sum := "4c523f6e1baf9725e5438bca157a58cbda0c84737a52fc80ffadbdec463e73ac", func := "sextant/sextantlaw09.LtlBack", spec := "ltlBack", unfollowed := true, recurses := true, named := ["sextant/ltl.signs", "sextant/ltl.reserved", "sextant/ltl.shapes"], loops := true, plainKeys := false, apart := false, laid := [("sextant/ltl.shapes", laid_sextant_ltl_shapes), ("sextant/ltl.signs", laid_sextant_ltl_signs), ("sextant/ltl.reserved", laid_sextant_ltl_reserved)], narrowed := true }
def LtlBackUptoSaid : Prop := ltlBackUptoRow.holds Tryd.pinned (OpenSpec.upto ltlBackSpec)

end Rows
end Go.Proofs.YtidihaecgmbhpaaDoor
