/-
  What is proved here: what is missing of valid infos when one is taken away (without a program).
-/
import Derived.Test.YtcapbojjceeapaaDoorWKd
import Derived.Test.YtcapbojjceeapaaDoorWKb
namespace Go.Proofs.YtcapbojjceeapaaDoor
open Go.RowKit
set_option maxRecDepth 8000
set_option linter.unusedVariables false
set_option linter.unusedSimpArgs false
end Go.Proofs.YtcapbojjceeapaaDoor
