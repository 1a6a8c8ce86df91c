/-
  PROVED HERE: whatever the graph, the statement sextantlaw15.NetAgain (a graph that is explored may be, all its nodes are reached, and explored again it is the same) answers true and leaves its argument as it was. No condition.
-/
import Derived.Test.YtlgljpbbooeanaaNLawAgain
import Derived.Test.YtlgljpbbooeanaaNExplW
namespace Go.Proofs.Ytlgljpbbooeanaa

/-- THE STATEMENT. -/
theorem netAgain_holds : Rows.NetAgainSaid := netAgain_of nCons

end Go.Proofs.Ytlgljpbbooeanaa
