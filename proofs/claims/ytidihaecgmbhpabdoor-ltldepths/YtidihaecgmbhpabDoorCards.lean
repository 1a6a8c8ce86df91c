/-
  DERIVED. GIVEN WITH THE SEED: THE CARDS: each row of YtidihaecgmbhpabDoorRows.lean that lists a variable, with what it lists TIED to the program's text (the seventh form; the later family's looks); each row that meets fmt, with fmt's text TOLD by the authors' own Lean function (tested against real Go, not proved from fmt's source: count such statements apart). THE CARD IS WHAT COUNTS. Prove the row's statement (the work); the ties are given (YtidihaecgmbhpabDoorTie.lean); close each card by the builder's one call (the guide's Derived/Test/ToyasCard.lean, 'card_holds'). Laid BY PROGRAM, IN A SANDBOX (cutbox-door.mjs). By AI agents, Wed Nov 11 2026. No macro, syntax, notation, axiom, sorry.
-/
import Derived.Test.YtidihaecgmbhpabDoorRows
import GoSem.ClaimSeven
namespace Go.Proofs.YtidihaecgmbhpabDoor
namespace Rows

/-- THE TIED CARD OF 'sextantlaw09.LtlTurns'. -/
def ltlTurnsCard : Claim7 := { stood := { row := ltlTurnsRow, standIns := [], harness := (true, "81f3b6e82b0d2bbc607cb15655c1d13107f792109c6dcf179988b978ed4d79b4"), looks := true }, kinds := [], alts := [], laidByText := true, laidKinds := [.data, .data, .data], laidTests := true, laidLooks := .later }
def LtlTurnsCardSaid : Prop := Claim7.holds Tryd.pinned (.plain (OpenSpec.ofChange ltlTurnsSpec)) ltlTurnsCard

/-- THE TIED CARD OF 'sextantlaw09.LtlAround'. -/
def ltlAroundCard : Claim7 := { stood := { row := ltlAroundRow, standIns := [], harness := (true, "81f3b6e82b0d2bbc607cb15655c1d13107f792109c6dcf179988b978ed4d79b4"), looks := true }, kinds := [], alts := [], laidByText := true, laidKinds := [.data, .data, .data], laidTests := true, laidLooks := .later }
def LtlAroundCardSaid : Prop := Claim7.holds Tryd.pinned (.plain (OpenSpec.ofChange ltlAroundSpec)) ltlAroundCard

/-- THE TIED CARD OF 'sextantlaw09.LtlSpells'. -/
def ltlSpellsCard : Claim7 := { stood := { row := ltlSpellsRow, standIns := [], harness := (true, "81f3b6e82b0d2bbc607cb15655c1d13107f792109c6dcf179988b978ed4d79b4"), looks := true }, kinds := [], alts := [], laidByText := true, laidKinds := [.data, .data, .data], laidTests := true, laidLooks := .later }
def LtlSpellsCardSaid : Prop := Claim7.holds Tryd.pinned (.plain (OpenSpec.ofChange ltlSpellsSpec)) ltlSpellsCard

/-- THE TIED CARD OF 'sextantlaw09.LtlDepths'. -/
def ltlDepthsCard : Claim7 := { stood := { row := ltlDepthsRow, standIns := [], harness := (true, "81f3b6e82b0d2bbc607cb15655c1d13107f792109c6dcf179988b978ed4d79b4"), looks := true }, kinds := [], alts := [], laidByText := true, laidKinds := [.data, .data, .data], laidTests := true, laidLooks := .later }
def LtlDepthsCardSaid : Prop := Claim7.holds Tryd.pinned (.plain (OpenSpec.ofChange ltlDepthsSpec)) ltlDepthsCard

/-- THE SECOND FORM's CARD OF 'sextantlaw09.LtlTurns'. -/
def ltlTurnsUptoCard : Claim7 := { stood := { row := ltlTurnsUptoRow, standIns := [], harness := (true, "81f3b6e82b0d2bbc607cb15655c1d13107f792109c6dcf179988b978ed4d79b4"), looks := true }, kinds := [], alts := [], laidByText := true, laidKinds := [.data, .data, .data], laidTests := true, laidLooks := .later }
def LtlTurnsUptoCardSaid : Prop := Claim7.holds Tryd.pinned (.plain (OpenSpec.upto ltlTurnsSpec)) ltlTurnsUptoCard

/-- THE SECOND FORM's CARD OF 'sextantlaw09.LtlAround'. -/
def ltlAroundUptoCard : Claim7 := { stood := { row := ltlAroundUptoRow, standIns := [], harness := (true, "81f3b6e82b0d2bbc607cb15655c1d13107f792109c6dcf179988b978ed4d79b4"), looks := true }, kinds := [], alts := [], laidByText := true, laidKinds := [.data, .data, .data], laidTests := true, laidLooks := .later }
def LtlAroundUptoCardSaid : Prop := Claim7.holds Tryd.pinned (.plain (OpenSpec.upto ltlAroundSpec)) ltlAroundUptoCard

/-- THE SECOND FORM's CARD OF 'sextantlaw09.LtlSpells'. -/
def ltlSpellsUptoCard : Claim7 := { stood := { row := ltlSpellsUptoRow, standIns := [], harness := (true, "81f3b6e82b0d2bbc607cb15655c1d13107f792109c6dcf179988b978ed4d79b4"), looks := true }, kinds := [], alts := [], laidByText := true, laidKinds := [.data, .data, .data], laidTests := true, laidLooks := .later }
def LtlSpellsUptoCardSaid : Prop := Claim7.holds Tryd.pinned (.plain (OpenSpec.upto ltlSpellsSpec)) ltlSpellsUptoCard

/-- THE SECOND FORM's CARD OF 'sextantlaw09.LtlDepths'. -/
def ltlDepthsUptoCard : Claim7 := { stood := { row := ltlDepthsUptoRow, standIns := [], harness := (true, "81f3b6e82b0d2bbc607cb15655c1d13107f792109c6dcf179988b978ed4d79b4"), looks := true }, kinds := [], alts := [], laidByText := true, laidKinds := [.data, .data, .data], laidTests := true, laidLooks := .later }
def LtlDepthsUptoCardSaid : Prop := Claim7.holds Tryd.pinned (.plain (OpenSpec.upto ltlDepthsSpec)) ltlDepthsUptoCard
end Rows
end Go.Proofs.YtidihaecgmbhpabDoor
