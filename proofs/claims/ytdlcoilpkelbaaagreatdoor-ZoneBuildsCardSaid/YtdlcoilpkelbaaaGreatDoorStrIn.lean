/-
  What is proved here: a text that came in is within the form's own reach; no condition.
-/
import Derived.Test.YtdlcoilpkelbaaaGreatDoorRows
import Derived.ProofKit
import Derived.SizedLaws
namespace Go.Proofs.YtdlcoilpkelbaaaGreatDoor
open Go.ChangeShapes Go.WideShapes Go.ChangeAt Go.RowKit

theorem reach_str {H : Type} {ts : List TypeId} {ds : List (DataW H)} (h : (DataW.weightsEach Tryz.prog ts ds).all (· ≤ reachBytes) = true) {j : Nat} {t : TypeId} {s : ByteArray} (ht : ts[j]? = some t) (hd : ds[j]? = some (.lit (.string s.data.toList))) :
    s.size ≤ 140737488351232 := by
  have := sized_string h ht hd
  have e : s.data.toList.length = s.size := by rw [Array.length_toList]; rfl
  simp only [reachBytes] at this
  omega

end Go.Proofs.YtdlcoilpkelbaaaGreatDoor
