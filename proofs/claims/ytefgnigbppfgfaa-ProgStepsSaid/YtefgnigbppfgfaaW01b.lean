/- Layer 1: the contract of Fixed. -/
import Derived.Test.YtefgnigbppfgfaaW01
namespace Go.Proofs.Ytefgnigbppfgfaa
open Go.RowKit
set_option linter.unusedVariables false

end Go.Proofs.Ytefgnigbppfgfaa
