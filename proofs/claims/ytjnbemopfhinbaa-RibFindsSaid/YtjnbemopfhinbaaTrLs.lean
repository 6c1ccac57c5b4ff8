/- List of the program's trie. Each theorem states its conditions. -/
import Derived.Test.YtjnbemopfhinbaaTrT
namespace Go.Proofs.Ytjnbemopfhinbaa
open Go.RowKit
set_option linter.unusedVariables false
set_option linter.unusedSimpArgs false

def Ts.all (T : Ts) : List Pf := T.h4.hl 4 ++ T.h6.hl 6
end Go.Proofs.Ytjnbemopfhinbaa
