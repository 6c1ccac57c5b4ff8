/- DocCut. Each theorem states its conditions. -/
import Derived.Test.YtadmiadallflfaaPRef
namespace Go.Proofs.Ytadmiadallflfaa
open Go.RowKit
set_option linter.unusedVariables false

end Go.Proofs.Ytadmiadallflfaa
