/-
  NARROWER THAN 'FOR EVERY INPUT', by the rows' own cells (each row's printed sentence says how): LtlTurns: loops, laid · LtlAround: laid · LtlSpells: loops, laid · LtlDepths: laid.
  DERIVED. THE GIVEN ROWS OF THIS SEAT. 4 by the template 'for every input the law returns true; each argument reads behind the call as it read before'; 0 by the template 'total and deterministic' (their statements: YtidihaecgmbhpabDoorTotals.lean).
  GIVEN WITH THE SEED: the statements are not yours to turn. If you find one false, say at which input.
  Laid BY PROGRAM, IN A SANDBOX (cutbox-rows.mjs): the forced cells as the released guide's own fill.sh prints them over the translation 2390cbd713ea3239… (all of the seat's roots in one cut). By AI agents, Wed Nov 11 2026. No macro, syntax, notation, axiom, sorry.
-/
import Derived.Test.YtidihaecgmbhpabDoorChecked
import GoSem.Claim
import GoSem.ClaimJoined
import GoSem.ClaimMapViews
import Derived.JoinedTies
import Derived.KernelRfl
namespace Go.Proofs.YtidihaecgmbhpabDoor
/- THE CELL 'sum', in the pinned program and in every row, IS THE sha256 OF THE DUMP (.gsa) THAT YtidihaecgmbhpabDoorProg.lean LOADS. Nothing in Lean hashes anything: it is a label: what it is worth is what the hold of that sum in a sandbox is worth. -/
noncomputable def Tryd.pinned : Pinned := { name := "ytidihaecgmbhpabdoor", sum := "2390cbd713ea3239975cdf410f0e17b027c5f720fec07ee148f4a43995b42ea7", checked := Tryd.checked }
namespace Rows
def none {H : Type} : Left H := { results := [], args := [] }

/- WHAT THE LISTED PACKAGE-LEVEL VARIABLES READ AS WHEN THE CALL BEGINS. Each datum BY PROGRAM (the guide's laid-datum.mjs) off the statement by which the dump's own 'gosem.cut.vars' lays the variable. In a bare row this is a premise. The card (YtidihaecgmbhpabDoorCards.lean) ties it to the program's text. -/
def laid_sextant_ltl_shapes {H : Type} : DataW H := .agg [.agg [.lit (.string []), .lit (.int .i64 0), .lit (.int .i64 0), .lit (.int .i64 0), .lit (.int .i64 0)], .agg [.lit (.string [116, 114, 117, 101]), .lit (.int .i64 0), .lit (.int .i64 6), .lit (.int .i64 0), .lit (.int .i64 0)], .agg [.lit (.string [102, 97, 108, 115, 101]), .lit (.int .i64 0), .lit (.int .i64 6), .lit (.int .i64 0), .lit (.int .i64 0)], .agg [.lit (.string []), .lit (.int .i64 0), .lit (.int .i64 6), .lit (.int .i64 0), .lit (.int .i64 0)], .agg [.lit (.string [33]), .lit (.int .i64 1), .lit (.int .i64 5), .lit (.int .i64 0), .lit (.int .i64 5)], .agg [.lit (.string [88, 32]), .lit (.int .i64 1), .lit (.int .i64 5), .lit (.int .i64 0), .lit (.int .i64 5)], .agg [.lit (.string [91, 93, 32]), .lit (.int .i64 1), .lit (.int .i64 5), .lit (.int .i64 0), .lit (.int .i64 5)], .agg [.lit (.string [60, 62, 32]), .lit (.int .i64 1), .lit (.int .i64 5), .lit (.int .i64 0), .lit (.int .i64 5)], .agg [.lit (.string [32, 38, 38, 32]), .lit (.int .i64 2), .lit (.int .i64 3), .lit (.int .i64 3), .lit (.int .i64 4)], .agg [.lit (.string [32, 124, 124, 32]), .lit (.int .i64 2), .lit (.int .i64 2), .lit (.int .i64 2), .lit (.int .i64 3)], .agg [.lit (.string [32, 45, 62, 32]), .lit (.int .i64 2), .lit (.int .i64 1), .lit (.int .i64 2), .lit (.int .i64 1)], .agg [.lit (.string [32, 60, 45, 62, 32]), .lit (.int .i64 2), .lit (.int .i64 0), .lit (.int .i64 1), .lit (.int .i64 0)], .agg [.lit (.string [32, 85, 32]), .lit (.int .i64 2), .lit (.int .i64 4), .lit (.int .i64 5), .lit (.int .i64 4)], .agg [.lit (.string [32, 86, 32]), .lit (.int .i64 2), .lit (.int .i64 4), .lit (.int .i64 5), .lit (.int .i64 4)], .agg [.lit (.string [32, 87, 32]), .lit (.int .i64 2), .lit (.int .i64 4), .lit (.int .i64 5), .lit (.int .i64 4)]]
def laid_sextant_ltl_signs {H : Type} : DataW H := .agg [.agg [.lit (.string [91, 93]), .lit (.int .i64 6)], .agg [.lit (.string [60, 62]), .lit (.int .i64 7)], .agg [.lit (.string [60, 45, 62]), .lit (.int .i64 11)], .agg [.lit (.string [45, 62]), .lit (.int .i64 10)], .agg [.lit (.string [33]), .lit (.int .i64 4)], .agg [.lit (.string [38, 38]), .lit (.int .i64 8)], .agg [.lit (.string [47, 92]), .lit (.int .i64 8)], .agg [.lit (.string [124, 124]), .lit (.int .i64 9)], .agg [.lit (.string [92, 47]), .lit (.int .i64 9)], .agg [.lit (.string [40]), .lit (.int .i64 (-1))], .agg [.lit (.string [41]), .lit (.int .i64 (-2))]]
def laid_sextant_ltl_reserved {H : Type} : DataW H := .agg [.agg [.lit (.string [116, 114, 117, 101]), .lit (.int .i64 1)], .agg [.lit (.string [102, 97, 108, 115, 101]), .lit (.int .i64 2)], .agg [.lit (.string [88]), .lit (.int .i64 5)], .agg [.lit (.string [85]), .lit (.int .i64 12)], .agg [.lit (.string [86]), .lit (.int .i64 13)], .agg [.lit (.string [87]), .lit (.int .i64 14)], .agg [.lit (.string [97, 108, 119, 97, 121, 115]), .lit (.int .i64 6)], .agg [.lit (.string [101, 118, 101, 110, 116, 117, 97, 108, 108, 121]), .lit (.int .i64 7)], .agg [.lit (.string [110, 101, 120, 116]), .lit (.int .i64 5)], .agg [.lit (.string [117, 110, 116, 105, 108]), .lit (.int .i64 12)], .agg [.lit (.string [114, 101, 108, 101, 97, 115, 101]), .lit (.int .i64 13)], .agg [.lit (.string [119, 101, 97, 107, 117, 110, 116, 105, 108]), .lit (.int .i64 14)]]

/-- 'sextantlaw09.LtlTurns': WHATEVER THE INPUT: true; the input reads as it did. -/
def ltlTurnsSpec : ChangeSpec := { name := "ltlTurns", fn := fun _ => fun
  | [d] => { results := [.lit (.bool true)], args := [d] }
  | _ => none }
def ltlTurnsRow : OpenClaim := { program := "ytidihaecgmbhpabdoor", sum := "2390cbd713ea3239975cdf410f0e17b027c5f720fec07ee148f4a43995b42ea7", func := "sextant/sextantlaw09.LtlTurns", spec := "ltlTurns", unfollowed := true, recurses := true, named := ["sextant/ltl.signs", "sextant/ltl.reserved", "sextant/ltl.shapes"], loops := true, plainKeys := false, apart := false, laid := [("sextant/ltl.shapes", laid_sextant_ltl_shapes), ("sextant/ltl.signs", laid_sextant_ltl_signs), ("sextant/ltl.reserved", laid_sextant_ltl_reserved)] }
def LtlTurnsSaid : Prop := ltlTurnsRow.holds Tryd.pinned (OpenSpec.ofChange ltlTurnsSpec)

/-- ITS FALSE NEIGHBOUR: 'it returns false'. Refute it at one input. -/
def ltlTurnsWrong : ChangeSpec := { name := "ltlTurns", fn := fun _ => fun
  | [d] => { results := [.lit (.bool false)], args := [d] }
  | _ => none }
def LtlTurnsWrongFalsely : Prop := ltlTurnsRow.holds Tryd.pinned (OpenSpec.ofChange ltlTurnsWrong)

/-- 'sextantlaw09.LtlAround': WHATEVER THE INPUT: true; the input reads as it did. -/
def ltlAroundSpec : ChangeSpec := { name := "ltlAround", fn := fun _ => fun
  | [d1, d2, d3, d4] => { results := [.lit (.bool true)], args := [d1, d2, d3, d4] }
  | _ => none }
def ltlAroundRow : OpenClaim := { program := "ytidihaecgmbhpabdoor", sum := "2390cbd713ea3239975cdf410f0e17b027c5f720fec07ee148f4a43995b42ea7", func := "sextant/sextantlaw09.LtlAround", spec := "ltlAround", unfollowed := true, recurses := true, named := ["sextant/ltl.signs", "sextant/ltl.reserved", "sextant/ltl.shapes"], plainKeys := false, apart := false, laid := [("sextant/ltl.shapes", laid_sextant_ltl_shapes), ("sextant/ltl.signs", laid_sextant_ltl_signs), ("sextant/ltl.reserved", laid_sextant_ltl_reserved)] }
def LtlAroundSaid : Prop := ltlAroundRow.holds Tryd.pinned (OpenSpec.ofChange ltlAroundSpec)

/-- ITS FALSE NEIGHBOUR: 'it returns false'. Refute it at one input. -/
def ltlAroundWrong : ChangeSpec := { name := "ltlAround", fn := fun _ => fun
  | [d1, d2, d3, d4] => { results := [.lit (.bool false)], args := [d1, d2, d3, d4] }
  | _ => none }
def LtlAroundWrongFalsely : Prop := ltlAroundRow.holds Tryd.pinned (OpenSpec.ofChange ltlAroundWrong)

/-- 'sextantlaw09.LtlSpells': WHATEVER THE INPUT: true; the input reads as it did. -/
def ltlSpellsSpec : ChangeSpec := { name := "ltlSpells", fn := fun _ => fun
  | [d1, d2] => { results := [.lit (.bool true)], args := [d1, d2] }
  | _ => none }
def ltlSpellsRow : OpenClaim := { program := "ytidihaecgmbhpabdoor", sum := "2390cbd713ea3239975cdf410f0e17b027c5f720fec07ee148f4a43995b42ea7", func := "sextant/sextantlaw09.LtlSpells", spec := "ltlSpells", unfollowed := true, recurses := true, named := ["sextant/ltl.signs", "sextant/ltl.reserved", "sextant/ltl.shapes"], loops := true, plainKeys := false, apart := false, laid := [("sextant/ltl.shapes", laid_sextant_ltl_shapes), ("sextant/ltl.signs", laid_sextant_ltl_signs), ("sextant/ltl.reserved", laid_sextant_ltl_reserved)] }
def LtlSpellsSaid : Prop := ltlSpellsRow.holds Tryd.pinned (OpenSpec.ofChange ltlSpellsSpec)

/-- ITS FALSE NEIGHBOUR: 'it returns false'. Refute it at one input. -/
def ltlSpellsWrong : ChangeSpec := { name := "ltlSpells", fn := fun _ => fun
  | [d1, d2] => { results := [.lit (.bool false)], args := [d1, d2] }
  | _ => none }
def LtlSpellsWrongFalsely : Prop := ltlSpellsRow.holds Tryd.pinned (OpenSpec.ofChange ltlSpellsWrong)

/-- 'sextantlaw09.LtlDepths': WHATEVER THE INPUT: true; the input reads as it did. -/
def ltlDepthsSpec : ChangeSpec := { name := "ltlDepths", fn := fun _ => fun
  | [d1, d2, d3] => { results := [.lit (.bool true)], args := [d1, d2, d3] }
  | _ => none }
def ltlDepthsRow : OpenClaim := { program := "ytidihaecgmbhpabdoor", sum := "2390cbd713ea3239975cdf410f0e17b027c5f720fec07ee148f4a43995b42ea7", func := "sextant/sextantlaw09.LtlDepths", spec := "ltlDepths", unfollowed := true, recurses := true, named := ["sextant/ltl.signs", "sextant/ltl.reserved", "sextant/ltl.shapes"], plainKeys := false, apart := false, laid := [("sextant/ltl.shapes", laid_sextant_ltl_shapes), ("sextant/ltl.signs", laid_sextant_ltl_signs), ("sextant/ltl.reserved", laid_sextant_ltl_reserved)] }
def LtlDepthsSaid : Prop := ltlDepthsRow.holds Tryd.pinned (OpenSpec.ofChange ltlDepthsSpec)

/-- ITS FALSE NEIGHBOUR: 'it returns false'. Refute it at one input. -/
def ltlDepthsWrong : ChangeSpec := { name := "ltlDepths", fn := fun _ => fun
  | [d1, d2, d3] => { results := [.lit (.bool false)], args := [d1, d2, d3] }
  | _ => none }
def LtlDepthsWrongFalsely : Prop := ltlDepthsRow.holds Tryd.pinned (OpenSpec.ofChange ltlDepthsWrong)

/- THE SECOND FORM. 'bulk': how many values and letters a reading holds, each counted each time it is reached (what is shared counts as often as it is met; a slice's spare places count too). A statement '..UptoSaid' is the law's where the arguments, and the package variables that the reading takes, are together of bulk at most 1048576: NARROWER than '..Said'. Prove '..Said' where nothing that the law and all that it calls make is longer than what came in: it says more and counts as full. Else prove '..UptoSaid'. A law counts once. -/
mutual
def uptoBulk {H : Type} : DataW H → Nat
  | .lit (.string bytes) => bytes.length + 1
  | .lit _ => 1
  | .nil => 1
  | .ptr d => uptoBulk d + 1
  | .slice elems spare => uptoBulkAll elems + uptoBulkAll spare + 1
  | .agg parts => uptoBulkAll parts + 1
  | .iface _ d => uptoBulk d + 1
  | .map entries => uptoBulkEntries entries + 1
  | .held _ => 1
def uptoBulkAll {H : Type} : List (DataW H) → Nat
  | [] => 0
  | d :: r => uptoBulk d + uptoBulkAll r
def uptoBulkEntries {H : Type} : List (Lit × DataW H) → Nat
  | [] => 0
  | x :: r => uptoBulkEntry x + uptoBulkEntries r
def uptoBulkEntry {H : Type} : Lit × DataW H → Nat
  | (.string bytes, d) => bytes.length + uptoBulk d + 1
  | (_, d) => uptoBulk d + 1
 end
def uptoSmall : (H : Type) → List (DataW H) → Bool := fun _ ds => decide (uptoBulkAll ds ≤ 1048576)
def OpenSpec.upto (s : _root_.Go.ChangeSpec) : _root_.Go.OpenSpec := { _root_.Go.OpenSpec.ofChange s with cond := some uptoSmall }

/-- 'sextantlaw09.LtlTurns', WHERE WHAT IT READS IS OF BULK AT MOST 1048576: true; the input reads as it did. -/
def ltlTurnsUptoRow : OpenClaim := { program := "ytidihaecgmbhpabdoor", sum := "2390cbd713ea3239975cdf410f0e17b027c5f720fec07ee148f4a43995b42ea7", func := "sextant/sextantlaw09.LtlTurns", spec := "ltlTurns", unfollowed := true, recurses := true, named := ["sextant/ltl.signs", "sextant/ltl.reserved", "sextant/ltl.shapes"], loops := true, plainKeys := false, apart := false, laid := [("sextant/ltl.shapes", laid_sextant_ltl_shapes), ("sextant/ltl.signs", laid_sextant_ltl_signs), ("sextant/ltl.reserved", laid_sextant_ltl_reserved)], narrowed := true }
def LtlTurnsUptoSaid : Prop := ltlTurnsUptoRow.holds Tryd.pinned (OpenSpec.upto ltlTurnsSpec)

/-- 'sextantlaw09.LtlAround', WHERE WHAT IT READS IS OF BULK AT MOST 1048576: true; the input reads as it did. -/
def ltlAroundUptoRow : OpenClaim := { program := "ytidihaecgmbhpabdoor", sum := "2390cbd713ea3239975cdf410f0e17b027c5f720fec07ee148f4a43995b42ea7", func := "sextant/sextantlaw09.LtlAround", spec := "ltlAround", unfollowed := true, recurses := true, named := ["sextant/ltl.signs", "sextant/ltl.reserved", "sextant/ltl.shapes"], plainKeys := false, apart := false, laid := [("sextant/ltl.shapes", laid_sextant_ltl_shapes), ("sextant/ltl.signs", laid_sextant_ltl_signs), ("sextant/ltl.reserved", laid_sextant_ltl_reserved)], narrowed := true }
def LtlAroundUptoSaid : Prop := ltlAroundUptoRow.holds Tryd.pinned (OpenSpec.upto ltlAroundSpec)

/-- 'sextantlaw09.LtlSpells', WHERE WHAT IT READS IS OF BULK AT MOST 1048576: true; the input reads as it did. -/
def ltlSpellsUptoRow : OpenClaim := { program := "ytidihaecgmbhpabdoor", sum := "2390cbd713ea3239975cdf410f0e17b027c5f720fec07ee148f4a43995b42ea7", func := "sextant/sextantlaw09.LtlSpells", spec := "ltlSpells", unfollowed := true, recurses := true, named := ["sextant/ltl.signs", "sextant/ltl.reserved", "sextant/ltl.shapes"], loops := true, plainKeys := false, apart := false, laid := [("sextant/ltl.shapes", laid_sextant_ltl_shapes), ("sextant/ltl.signs", laid_sextant_ltl_signs), ("sextant/ltl.reserved", laid_sextant_ltl_reserved)], narrowed := true }
def LtlSpellsUptoSaid : Prop := ltlSpellsUptoRow.holds Tryd.pinned (OpenSpec.upto ltlSpellsSpec)

/-- 'sextantlaw09.LtlDepths', WHERE WHAT IT READS IS OF BULK AT MOST 1048576: true; the input reads as it did. -/
def ltlDepthsUptoRow : OpenClaim := { program := "ytidihaecgmbhpabdoor", sum := "2390cbd713ea3239975cdf410f0e17b027c5f720fec07ee148f4a43995b42ea7", func := "sextant/sextantlaw09.LtlDepths", spec := "ltlDepths", unfollowed := true, recurses := true, named := ["sextant/ltl.signs", "sextant/ltl.reserved", "sextant/ltl.shapes"], plainKeys := false, apart := false, laid := [("sextant/ltl.shapes", laid_sextant_ltl_shapes), ("sextant/ltl.signs", laid_sextant_ltl_signs), ("sextant/ltl.reserved", laid_sextant_ltl_reserved)], narrowed := true }
def LtlDepthsUptoSaid : Prop := ltlDepthsUptoRow.holds Tryd.pinned (OpenSpec.upto ltlDepthsSpec)

end Rows
end Go.Proofs.YtidihaecgmbhpabDoor
