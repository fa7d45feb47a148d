/-
  What is proved here: what the reference's list returns, for bytes that lie in memory: the objects that the program's Parse reads.
-/
import Derived.Test.YtcapbojjceeapaaDoorRows
import Derived.Test.YtcapbojjceeapaaDoorWG1
import Derived.Test.YtcapbojjceeapaaDoorWG13
import Derived.Test.YtcapbojjceeapaaDoorWG4
import Derived.Test.YtcapbojjceeapaaDoorWG9
import Derived.Deep.CutRange
import Derived.Deep.DeepCutAuto
import Derived.BigQuiet
import Derived.Deep.CutBlock
namespace Go.Proofs.YtcapbojjceeapaaDoor
open Go.RowKit
end Go.Proofs.YtcapbojjceeapaaDoor
