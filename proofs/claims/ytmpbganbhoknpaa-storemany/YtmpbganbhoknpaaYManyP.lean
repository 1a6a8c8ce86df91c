/-
  PROVED HERE: whatever the numbers, the statement sextantlaw19.StoreMany (very many states keep their numbers, and are found; none that wasn't put is) answers true and leaves its arguments as they were. No condition.
-/
import Derived.Test.YtmpbganbhoknpaaYLawMany
import Derived.Test.YtmpbganbhoknpaaYStIt
namespace Go.Proofs.Ytmpbganbhoknpaa

/-- THE STATEMENT. -/
theorem storeMany_holds : Rows.StoreManySaid := storeMany_of s_cons a_cons

end Go.Proofs.Ytmpbganbhoknpaa
