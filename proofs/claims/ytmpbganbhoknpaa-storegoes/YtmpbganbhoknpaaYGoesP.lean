/-
  PROVED HERE: whatever the texts and the number, the statement sextantlaw19.StoreGoes (states that are put while all are gone over come, too) answers true and leaves its arguments as they were. No condition.
-/
import Derived.Test.YtmpbganbhoknpaaYLawGoes
import Derived.Test.YtmpbganbhoknpaaYStIt
namespace Go.Proofs.Ytmpbganbhoknpaa

/-- THE STATEMENT. -/
theorem storeGoes_holds : Rows.StoreGoesSaid := storeGoes_of s_cons a_cons

end Go.Proofs.Ytmpbganbhoknpaa
