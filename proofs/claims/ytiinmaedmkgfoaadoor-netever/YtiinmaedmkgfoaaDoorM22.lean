/-
  JCons.
-/
import Derived.Shelf.Spec.TrailingZeros
import Derived.Test.YtiinmaedmkgfoaaDoorM20
/-
  What NetExplores asks besides of the program's functions, with the table of package math/bits where it lies.
-/
namespace Go.Proofs.YtiinmaedmkgfoaaDoor
open Go.RowKit

/-- What NetExplores asks besides: of Explore of nothing, of OfThreads. -/
structure NConsU : Prop where
  explS : ∀ (w : World) (most : Int), Calls Tryd.prog 14 #[.nilIface, .int .i64 most] w fun e w' => Nu w w' ∧ ∃ na nn nc sa sn sc, e = .returned (.tuple #[.agg #[.slice na nn nc], .slice sa sn sc, .int .i64 1])
  ofT : ∀ (w : World) (v0 v1 v2 : Value) (t : Thr), ThrAt w w.heap.size v0 v1 v2 t → TabAt 0 Lib.deBruijn64tab w → Calls Tryd.prog 6 #[.agg #[v0, v1, v2]] w fun e w' => Nu w w' ∧
    ((∃ code, e = .returned (.tuple #[.nilIface, .int .i64 code]) ∧ ¬ code = 0) ∨ ∃ F T r0 M, e = .returned (.tuple #[.iface T r0, .int .i64 0]) ∧ SysAt F w' T r0 M ∧ M.Fine)

end Go.Proofs.YtiinmaedmkgfoaaDoor
