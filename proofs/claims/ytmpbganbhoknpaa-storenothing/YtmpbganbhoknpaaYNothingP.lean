/-
  PROVED HERE: whatever the text and the number, the statement sextantlaw19.StoreNothing (a store that isn't there has nothing) answers true and leaves its arguments as they were. No condition.
-/
import Derived.Test.YtmpbganbhoknpaaYLawNothing
import Derived.Test.YtmpbganbhoknpaaYStIt
namespace Go.Proofs.Ytmpbganbhoknpaa

/-- THE STATEMENT. -/
theorem storeNothing_holds : Rows.StoreNothingSaid := storeNothing_of s_cons a_cons

end Go.Proofs.Ytmpbganbhoknpaa
