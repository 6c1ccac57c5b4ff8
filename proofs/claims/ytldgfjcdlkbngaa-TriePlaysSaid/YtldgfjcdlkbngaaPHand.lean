/- Steps by hand: the laws of AHand beside a prefix as a value. -/
import Derived.Test.YtldgfjcdlkbngaaPRep
import Derived.Test.YtldgfjcdlkbngaaBlk
namespace Go.Proofs.Ytldgfjcdlkbngaa
end Go.Proofs.Ytldgfjcdlkbngaa
