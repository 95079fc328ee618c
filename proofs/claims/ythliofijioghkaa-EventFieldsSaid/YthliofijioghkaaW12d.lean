/- Layer 12: the contract of the program's Encode. -/
import Derived.Test.YthliofijioghkaaW12c
namespace Go.Proofs.Ythliofijioghkaa
open Go.RowKit
set_option linter.unusedVariables false

end Go.Proofs.Ythliofijioghkaa
