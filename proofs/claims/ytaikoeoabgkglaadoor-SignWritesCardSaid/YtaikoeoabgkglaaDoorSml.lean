/-
  What is proved here: what the program's Sum answers, for bytes that lie in memory, where the digest's tables lie there too.
-/
import Derived.Test.YtaikoeoabgkglaaDoorMn
import Derived.Test.YtaikoeoabgkglaaDoorTa4
namespace Go.Proofs.YtaikoeoabgkglaaDoor
open Go.RowKit
set_option linter.unusedVariables false

theorem sumL_len (x : List UInt8) : (sumL x).length = 32 := by rw [sumL, outB_length, stW_length]
theorem prog_sumN {l : List UInt8} {A : Option Addr} {n c : Nat} {w : World} (hn : l.length = n) (hl : n ≤ 140737488351500) (hs : SeesP w (· < w.heap.size) A (Us l)) (ht : TabA w) :
    Calls Tryd.prog 40 #[.slice A n c] w (MkN w 32 (sumL l)) := by
  subst hn
  exact (digest_sum l A c w hl hs ht.1 ht.2.1).mono fun _ _ h => mkN_of (sumL_len l) h

end Go.Proofs.YtaikoeoabgkglaaDoor
