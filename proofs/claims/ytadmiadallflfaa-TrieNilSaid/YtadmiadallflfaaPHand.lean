/- Steps by hand: the laws of AHand beside a prefix as a value. -/
import Derived.Test.YtadmiadallflfaaPRep
import Derived.Test.YtadmiadallflfaaBlk
namespace Go.Proofs.Ytadmiadallflfaa
end Go.Proofs.Ytadmiadallflfaa
