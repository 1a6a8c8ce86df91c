/-
  DERIVED. GIVEN WITH THE SEED: THE CARDS: each row of YtidihaecgmbhpaaDoorRows.lean that lists a variable, with what it lists TIED to the program's text (the seventh form; the later family's looks); each row that meets fmt, with fmt's text TOLD by the authors' own Lean function (tested against real Go, not proved from fmt's source: count such statements apart). THE CARD IS WHAT COUNTS. Prove the row's statement (the work); the ties are given (YtidihaecgmbhpaaDoorTie.lean); close each card by the builder's one call (the guide's Derived/Test/ToyasCard.lean, 'card_holds'). Laid BY PROGRAM, IN A SANDBOX (cutbox-door.mjs). By AI agents, Wed Nov 11 2026. No macro, syntax, notation, axiom, sorry.
-/
import Derived.Test.YtidihaecgmbhpaaDoorRows
import GoSem.ClaimSeven
namespace Go.Proofs.YtidihaecgmbhpaaDoor
namespace Rows

/-- THE TIED CARD OF 'sextantlaw09.LtlReads'. -/
def ltlReadsCard : Claim7 := { stood := { row := ltlReadsRow, standIns := [], harness := (true, "1f43adfa7a72e24a21d114afb88abfd6cf0fbba2934c0916904ee54867752986"), looks := true }, kinds := [], alts := [], laidByText := true, laidKinds := [.data, .data, .data], laidTests := true, laidLooks := .later }
def LtlReadsCardSaid : Prop := Claim7.holds Tryd.pinned (.plain (OpenSpec.ofChange ltlReadsSpec)) ltlReadsCard

/-- THE TIED CARD OF 'sextantlaw09.LtlPrints'. -/
def ltlPrintsCard : Claim7 := { stood := { row := ltlPrintsRow, standIns := [], harness := (true, "1f43adfa7a72e24a21d114afb88abfd6cf0fbba2934c0916904ee54867752986"), looks := true }, kinds := [], alts := [], laidByText := true, laidKinds := [.data, .data, .data], laidTests := true, laidLooks := .later }
def LtlPrintsCardSaid : Prop := Claim7.holds Tryd.pinned (.plain (OpenSpec.ofChange ltlPrintsSpec)) ltlPrintsCard

/-- THE TIED CARD OF 'sextantlaw09.LtlNormal'. -/
def ltlNormalCard : Claim7 := { stood := { row := ltlNormalRow, standIns := [], harness := (true, "1f43adfa7a72e24a21d114afb88abfd6cf0fbba2934c0916904ee54867752986"), looks := true }, kinds := [], alts := [], laidByText := true, laidKinds := [.data, .data, .data], laidTests := true, laidLooks := .later }
def LtlNormalCardSaid : Prop := Claim7.holds Tryd.pinned (.plain (OpenSpec.ofChange ltlNormalSpec)) ltlNormalCard

/-- THE TIED CARD OF 'sextantlaw09.LtlBack'. -/
def ltlBackCard : Claim7 := { stood := { row := ltlBackRow, standIns := [], harness := (true, "1f43adfa7a72e24a21d114afb88abfd6cf0fbba2934c0916904ee54867752986"), looks := true }, kinds := [], alts := [], laidByText := true, laidKinds := [.data, .data, .data], laidTests := true, laidLooks := .later }
def LtlBackCardSaid : Prop := Claim7.holds Tryd.pinned (.plain (OpenSpec.ofChange ltlBackSpec)) ltlBackCard

/-- THE SECOND FORM's CARD OF 'sextantlaw09.LtlReads'. -/
def ltlReadsUptoCard : Claim7 := { stood := { row := ltlReadsUptoRow, standIns := [], harness := (true, "1f43adfa7a72e24a21d114afb88abfd6cf0fbba2934c0916904ee54867752986"), looks := true }, kinds := [], alts := [], laidByText := true, laidKinds := [.data, .data, .data], laidTests := true, laidLooks := .later }
def LtlReadsUptoCardSaid : Prop := Claim7.holds Tryd.pinned (.plain (OpenSpec.upto ltlReadsSpec)) ltlReadsUptoCard

/-- THE SECOND FORM's CARD OF 'sextantlaw09.LtlPrints'. -/
def ltlPrintsUptoCard : Claim7 := { stood := { row := ltlPrintsUptoRow, standIns := [], harness := (true, "1f43adfa7a72e24a21d114afb88abfd6cf0fbba2934c0916904ee54867752986"), looks := true }, kinds := [], alts := [], laidByText := true, laidKinds := [.data, .data, .data], laidTests := true, laidLooks := .later }
def LtlPrintsUptoCardSaid : Prop := Claim7.holds Tryd.pinned (.plain (OpenSpec.upto ltlPrintsSpec)) ltlPrintsUptoCard

/-- THE SECOND FORM's CARD OF 'sextantlaw09.LtlNormal'. -/
def ltlNormalUptoCard : Claim7 := { stood := { row := ltlNormalUptoRow, standIns := [], harness := (true, "1f43adfa7a72e24a21d114afb88abfd6cf0fbba2934c0916904ee54867752986"), looks := true }, kinds := [], alts := [], laidByText := true, laidKinds := [.data, .data, .data], laidTests := true, laidLooks := .later }
def LtlNormalUptoCardSaid : Prop := Claim7.holds Tryd.pinned (.plain (OpenSpec.upto ltlNormalSpec)) ltlNormalUptoCard

/-- THE SECOND FORM's CARD OF 'sextantlaw09.LtlBack'. -/
def ltlBackUptoCard : Claim7 := { stood := { row := ltlBackUptoRow, standIns := [], harness := (true, "1f43adfa7a72e24a21d114afb88abfd6cf0fbba2934c0916904ee54867752986"), looks := true }, kinds := [], alts := [], laidByText := true, laidKinds := [.data, .data, .data], laidTests := true, laidLooks := .later }
def LtlBackUptoCardSaid : Prop := Claim7.holds Tryd.pinned (.plain (OpenSpec.upto ltlBackSpec)) ltlBackUptoCard
end Rows
end Go.Proofs.YtidihaecgmbhpaaDoor
