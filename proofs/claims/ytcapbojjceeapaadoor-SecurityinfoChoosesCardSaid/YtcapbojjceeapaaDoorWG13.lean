/-
  What is proved here: what the reference's tag returns, for bytes that lie in memory.
-/
import Derived.Test.YtcapbojjceeapaaDoorRows
import Derived.Test.YtcapbojjceeapaaDoorWG1
import Derived.Test.YtcapbojjceeapaaDoorWG2
import Derived.Test.YtcapbojjceeapaaDoorWG1b
import Derived.Test.YtcapbojjceeapaaDoorWG9
import Derived.BigQuiet
import Derived.Test.YtcapbojjceeapaaDoorWSnd
namespace Go.Proofs.YtcapbojjceeapaaDoor
open Go.RowKit
set_option maxRecDepth 8000
end Go.Proofs.YtcapbojjceeapaaDoor
