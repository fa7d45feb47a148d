/-
  What is proved here: nothing of its own; the library's words for cutting a walk.
-/
import Derived.Test.YtaikoeoabgkglaaDoorKit
import Derived.Deep.CutRange
import Derived.Deep.DeepCutAuto
import Derived.BigRegion
import Derived.RegionTactic
import Derived.Deep.RegionHeld3
namespace Go.Proofs.YtaikoeoabgkglaaDoor
end Go.Proofs.YtaikoeoabgkglaaDoor
