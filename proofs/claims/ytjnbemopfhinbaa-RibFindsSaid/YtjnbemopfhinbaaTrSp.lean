/- SamePrefixes: two lists with the same prefixes are alike. Each theorem states its conditions. -/
import Derived.Test.YtjnbemopfhinbaaTrV
namespace Go.Proofs.Ytjnbemopfhinbaa
open Go.RowKit
set_option linter.unusedVariables false
set_option linter.unusedSimpArgs false

end Go.Proofs.Ytjnbemopfhinbaa
