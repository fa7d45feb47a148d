/-
  What is proved here: the law SecurityinfoTells as a function.
-/
import Derived.Test.YtcapbojjceeapaaDoorWKg
import Derived.Test.YtcapbojjceeapaaDoorWKa
import Derived.Test.YtcapbojjceeapaaDoorWKe
namespace Go.Proofs.YtcapbojjceeapaaDoor
open Go.RowKit
set_option maxRecDepth 8000
set_option linter.unusedVariables false
set_option linter.unusedSimpArgs false
end Go.Proofs.YtcapbojjceeapaaDoor
