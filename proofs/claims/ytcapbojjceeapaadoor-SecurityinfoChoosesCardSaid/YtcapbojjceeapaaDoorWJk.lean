/-
  What is proved here: the reference's object of infos, and its Encode.
-/
import Derived.Test.YtcapbojjceeapaaDoorWJh
import Derived.Test.YtcapbojjceeapaaDoorWIv
import Derived.Test.YtcapbojjceeapaaDoorWG9
namespace Go.Proofs.YtcapbojjceeapaaDoor
open Go.RowKit
set_option maxRecDepth 8000
set_option linter.unusedVariables false
set_option linter.unusedSimpArgs false
end Go.Proofs.YtcapbojjceeapaaDoor
