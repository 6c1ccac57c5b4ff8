/- The code's Cut and the document's say one and the same. Each theorem states its conditions. -/
import Derived.Test.YtldgfjcdlkbngaaPDCov
namespace Go.Proofs.Ytldgfjcdlkbngaa
open Go.RowKit
set_option linter.unusedVariables false

theorem z0_bytes : Bytes Z0 := fun j => by unfold Z0; omega
end Go.Proofs.Ytldgfjcdlkbngaa
