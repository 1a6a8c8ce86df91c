/-
  DERIVED. GIVEN WITH THE SEED: THE CARDS: each row of YtiinmaedmkgfoaaDoorRows.lean that lists a variable, with what it lists TIED to the program's text (the seventh form; the later family's looks); each row that meets fmt, with fmt's text TOLD by the authors' own Lean function (tested against real Go, not proved from fmt's source: count such statements apart). THE CARD IS WHAT COUNTS. Prove the row's statement (the work); the ties are given (YtiinmaedmkgfoaaDoorTie.lean); close each card by the builder's one call (the guide's Derived/Test/ToyasCard.lean, 'card_holds'). Laid BY PROGRAM, IN A SANDBOX (cutbox-door.mjs). By AI agents, Wed Nov 11 2026. No macro, syntax, notation, axiom, sorry.
-/
import Derived.Test.YtiinmaedmkgfoaaDoorRows
import GoSem.ClaimSeven
namespace Go.Proofs.YtiinmaedmkgfoaaDoor
namespace Rows

/-- THE TIED CARD OF 'sextantlaw15.NetThreads'. -/
def netThreadsCard : Claim7 := { stood := { row := netThreadsRow, standIns := [], harness := (true, "f55a264c44bf426132aa9c385a3d077f9c96a6f26cf1b0f62f367294625d3e75"), looks := false }, kinds := [], alts := [], laidByText := true, laidKinds := [.data], laidTests := true, laidLooks := .later }
def NetThreadsCardSaid : Prop := Claim7.holds Tryd.pinned (.plain (OpenSpec.ofChange netThreadsSpec)) netThreadsCard

/-- THE TIED CARD OF 'sextantlaw15.NetExplores'. -/
def netExploresCard : Claim7 := { stood := { row := netExploresRow, standIns := [], harness := (true, "f55a264c44bf426132aa9c385a3d077f9c96a6f26cf1b0f62f367294625d3e75"), looks := false }, kinds := [], alts := [], laidByText := true, laidKinds := [.data], laidTests := true, laidLooks := .later }
def NetExploresCardSaid : Prop := Claim7.holds Tryd.pinned (.plain (OpenSpec.ofChange netExploresSpec)) netExploresCard

/-- THE TIED CARD OF 'sextantlaw15.NetEver'. -/
def netEverCard : Claim7 := { stood := { row := netEverRow, standIns := [], harness := (true, "f55a264c44bf426132aa9c385a3d077f9c96a6f26cf1b0f62f367294625d3e75"), looks := false }, kinds := [], alts := [], laidByText := true, laidKinds := [.data], laidTests := true, laidLooks := .later }
def NetEverCardSaid : Prop := Claim7.holds Tryd.pinned (.plain (OpenSpec.ofChange netEverSpec)) netEverCard

/-- THE SECOND FORM's CARD OF 'sextantlaw15.NetThreads'. -/
def netThreadsUptoCard : Claim7 := { stood := { row := netThreadsUptoRow, standIns := [], harness := (true, "f55a264c44bf426132aa9c385a3d077f9c96a6f26cf1b0f62f367294625d3e75"), looks := false }, kinds := [], alts := [], laidByText := true, laidKinds := [.data], laidTests := true, laidLooks := .later }
def NetThreadsUptoCardSaid : Prop := Claim7.holds Tryd.pinned (.plain (OpenSpec.upto netThreadsSpec)) netThreadsUptoCard

/-- THE SECOND FORM's CARD OF 'sextantlaw15.NetExplores'. -/
def netExploresUptoCard : Claim7 := { stood := { row := netExploresUptoRow, standIns := [], harness := (true, "f55a264c44bf426132aa9c385a3d077f9c96a6f26cf1b0f62f367294625d3e75"), looks := false }, kinds := [], alts := [], laidByText := true, laidKinds := [.data], laidTests := true, laidLooks := .later }
def NetExploresUptoCardSaid : Prop := Claim7.holds Tryd.pinned (.plain (OpenSpec.upto netExploresSpec)) netExploresUptoCard

/-- THE SECOND FORM's CARD OF 'sextantlaw15.NetEver'. -/
def netEverUptoCard : Claim7 := { stood := { row := netEverUptoRow, standIns := [], harness := (true, "f55a264c44bf426132aa9c385a3d077f9c96a6f26cf1b0f62f367294625d3e75"), looks := false }, kinds := [], alts := [], laidByText := true, laidKinds := [.data], laidTests := true, laidLooks := .later }
def NetEverUptoCardSaid : Prop := Claim7.holds Tryd.pinned (.plain (OpenSpec.upto netEverSpec)) netEverUptoCard
end Rows
end Go.Proofs.YtiinmaedmkgfoaaDoor
