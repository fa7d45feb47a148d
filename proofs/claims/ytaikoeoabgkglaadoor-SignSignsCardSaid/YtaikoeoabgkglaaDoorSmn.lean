/-
  What is proved here: what the reference's Sum answers, for bytes that lie in memory, where the digest's tables lie there too.
-/
import Derived.Test.YtaikoeoabgkglaaDoorSml
import Derived.Test.YtaikoeoabgkglaaDoorSmr
namespace Go.Proofs.YtaikoeoabgkglaaDoor
open Go.RowKit
set_option linter.unusedVariables false

theorem ref_sumN {l : List UInt8} {A : Option Addr} {n c : Nat} {w : World} (hn : l.length = n) (hl : n ≤ 140737488351500) (hc : A = none → c = 0) (hs : SeesP w (· < w.heap.size) A (Us l)) (ht : TabR w) :
    Calls Tryd.prog 26 #[.slice A n c] w (MkN w 32 (sumL l)) := by
  subst hn
  exact (ref_sum l A c w hl hc hs ht).mono fun _ _ h => mkN_of (sumL_len l) h


end Go.Proofs.YtaikoeoabgkglaaDoor
