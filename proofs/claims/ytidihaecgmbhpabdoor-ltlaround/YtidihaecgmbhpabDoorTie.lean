/-
  DERIVED. GIVEN WITH THE SEED: THE PROGRAM's TIES (one call each: nine closed facts by the kernel) AND EACH ROW's TIE, after the 31st guide's Derived/Test/Toyas{Tie, Card}.lean. No idea stands in it: it is a product of the set-up. Laid BY PROGRAM, IN A SANDBOX (cutbox-door.mjs). By AI agents, Wed Nov 11 2026. No macro, syntax, notation, axiom, sorry.
-/
import Derived.Test.YtidihaecgmbhpabDoorRows
import Derived.LaidByTextLater
import Derived.SevenTiedAt
import Derived.LaidSub
import Derived.LaidOnce
namespace Go.Proofs.YtidihaecgmbhpabDoor
open Go
set_option maxRecDepth 100000
theorem seatTie1 : Tryd.prog.laidByTextLater [("sextant/ltl.shapes", Rows.laid_sextant_ltl_shapes), ("sextant/ltl.signs", Rows.laid_sextant_ltl_signs), ("sextant/ltl.reserved", Rows.laid_sextant_ltl_reserved)] [.data, .data, .data] true :=
  Program.laidByTextLater_by_one 61 8 76 (by kernel_rfl) (by kernel_rfl) (by kernel_rfl) (by kernel_rfl) (by kernel_rfl) (by kernel_rfl) (fun _ _ => by kernel_rfl)
theorem noOwnUnsafe : Tryd.pinned.checked.prog.headLifts.contains "ownunsafe" = false := by kernel_rfl
theorem tie : Tryd.prog.laidByTextLater [("sextant/ltl.shapes", Rows.laid_sextant_ltl_shapes), ("sextant/ltl.signs", Rows.laid_sextant_ltl_signs), ("sextant/ltl.reserved", Rows.laid_sextant_ltl_reserved)] [.data, .data, .data] true :=
  Program.laidByTextLater.sub seatTie1 ["sextant/ltl.shapes", "sextant/ltl.signs", "sextant/ltl.reserved"] (by kernel_rfl) (by kernel_rfl)
theorem ltlTurns_row_tie : Rows.ltlTurnsRow.laidByTextAt .later Tryd.pinned [.data, .data, .data] true :=
  OpenClaim.laidByTextAt_later rfl rfl tie noOwnUnsafe
theorem ltlAround_row_tie : Rows.ltlAroundRow.laidByTextAt .later Tryd.pinned [.data, .data, .data] true :=
  OpenClaim.laidByTextAt_later rfl rfl tie noOwnUnsafe
theorem ltlSpells_row_tie : Rows.ltlSpellsRow.laidByTextAt .later Tryd.pinned [.data, .data, .data] true :=
  OpenClaim.laidByTextAt_later rfl rfl tie noOwnUnsafe
theorem ltlDepths_row_tie : Rows.ltlDepthsRow.laidByTextAt .later Tryd.pinned [.data, .data, .data] true :=
  OpenClaim.laidByTextAt_later rfl rfl tie noOwnUnsafe
theorem ltlTurnsUpto_row_tie : Rows.ltlTurnsUptoRow.laidByTextAt .later Tryd.pinned [.data, .data, .data] true :=
  OpenClaim.laidByTextAt_later rfl rfl tie noOwnUnsafe
theorem ltlAroundUpto_row_tie : Rows.ltlAroundUptoRow.laidByTextAt .later Tryd.pinned [.data, .data, .data] true :=
  OpenClaim.laidByTextAt_later rfl rfl tie noOwnUnsafe
theorem ltlSpellsUpto_row_tie : Rows.ltlSpellsUptoRow.laidByTextAt .later Tryd.pinned [.data, .data, .data] true :=
  OpenClaim.laidByTextAt_later rfl rfl tie noOwnUnsafe
theorem ltlDepthsUpto_row_tie : Rows.ltlDepthsUptoRow.laidByTextAt .later Tryd.pinned [.data, .data, .data] true :=
  OpenClaim.laidByTextAt_later rfl rfl tie noOwnUnsafe
end Go.Proofs.YtidihaecgmbhpabDoor
