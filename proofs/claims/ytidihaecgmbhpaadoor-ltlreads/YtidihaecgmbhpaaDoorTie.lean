/-
  DERIVED. GIVEN WITH THE SEED: THE PROGRAM's TIES (one call each: nine closed facts by the kernel) AND EACH ROW's TIE, after the 31st guide's Derived/Test/Toyas{Tie, Card}.lean. No idea stands in it: it is a product of the set-up. Laid BY PROGRAM, IN A SANDBOX (cutbox-door.mjs). By AI agents, Wed Nov 11 2026. No macro, syntax, notation, axiom, sorry.
-/
import Derived.Test.YtidihaecgmbhpaaDoorRows
import Derived.LaidByTextLater
import Derived.SevenTiedAt
import Derived.LaidSub
import Derived.LaidOnce
namespace Go.Proofs.YtidihaecgmbhpaaDoor
open Go
set_option maxRecDepth 100000
theorem seatTie1 : Tryd.prog.laidByTextLater [("sextant/ltl.shapes", Rows.laid_sextant_ltl_shapes), ("sextant/ltl.signs", Rows.laid_sextant_ltl_signs), ("sextant/ltl.reserved", Rows.laid_sextant_ltl_reserved)] [.data, .data, .data] true :=
  Program.laidByTextLater_by_one 61 8 76 (by kernel_rfl) (by kernel_rfl) (by kernel_rfl) (by kernel_rfl) (by kernel_rfl) (by kernel_rfl) (fun _ _ => by kernel_rfl)
theorem noOwnUnsafe : Tryd.pinned.checked.prog.headLifts.contains "ownunsafe" = false := by kernel_rfl
theorem tie : Tryd.prog.laidByTextLater [("sextant/ltl.shapes", Rows.laid_sextant_ltl_shapes), ("sextant/ltl.signs", Rows.laid_sextant_ltl_signs), ("sextant/ltl.reserved", Rows.laid_sextant_ltl_reserved)] [.data, .data, .data] true :=
  Program.laidByTextLater.sub seatTie1 ["sextant/ltl.shapes", "sextant/ltl.signs", "sextant/ltl.reserved"] (by kernel_rfl) (by kernel_rfl)
theorem ltlReads_row_tie : Rows.ltlReadsRow.laidByTextAt .later Tryd.pinned [.data, .data, .data] true :=
  OpenClaim.laidByTextAt_later rfl rfl tie noOwnUnsafe
theorem ltlPrints_row_tie : Rows.ltlPrintsRow.laidByTextAt .later Tryd.pinned [.data, .data, .data] true :=
  OpenClaim.laidByTextAt_later rfl rfl tie noOwnUnsafe
theorem ltlNormal_row_tie : Rows.ltlNormalRow.laidByTextAt .later Tryd.pinned [.data, .data, .data] true :=
  OpenClaim.laidByTextAt_later rfl rfl tie noOwnUnsafe
theorem ltlBack_row_tie : Rows.ltlBackRow.laidByTextAt .later Tryd.pinned [.data, .data, .data] true :=
  OpenClaim.laidByTextAt_later rfl rfl tie noOwnUnsafe
theorem ltlReadsUpto_row_tie : Rows.ltlReadsUptoRow.laidByTextAt .later Tryd.pinned [.data, .data, .data] true :=
  OpenClaim.laidByTextAt_later rfl rfl tie noOwnUnsafe
theorem ltlPrintsUpto_row_tie : Rows.ltlPrintsUptoRow.laidByTextAt .later Tryd.pinned [.data, .data, .data] true :=
  OpenClaim.laidByTextAt_later rfl rfl tie noOwnUnsafe
theorem ltlNormalUpto_row_tie : Rows.ltlNormalUptoRow.laidByTextAt .later Tryd.pinned [.data, .data, .data] true :=
  OpenClaim.laidByTextAt_later rfl rfl tie noOwnUnsafe
theorem ltlBackUpto_row_tie : Rows.ltlBackUptoRow.laidByTextAt .later Tryd.pinned [.data, .data, .data] true :=
  OpenClaim.laidByTextAt_later rfl rfl tie noOwnUnsafe
end Go.Proofs.YtidihaecgmbhpaaDoor
