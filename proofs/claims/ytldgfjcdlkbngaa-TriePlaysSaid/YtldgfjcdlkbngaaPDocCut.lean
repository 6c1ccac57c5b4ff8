/- DocCut. Each theorem states its conditions. -/
import Derived.Test.YtldgfjcdlkbngaaPRef
namespace Go.Proofs.Ytldgfjcdlkbngaa
open Go.RowKit
set_option linter.unusedVariables false

end Go.Proofs.Ytldgfjcdlkbngaa
