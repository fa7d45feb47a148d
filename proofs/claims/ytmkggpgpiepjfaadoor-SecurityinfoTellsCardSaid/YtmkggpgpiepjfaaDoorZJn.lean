/-
  What is proved here: the makers' dice and what they stand on (parts of texts of earlier layers).
-/
import Derived.Test.YtmkggpgpiepjfaaDoorRows
import Derived.Test.YtmkggpgpiepjfaaDoorZJs
import Derived.BigQuiet
import Derived.Lib.Strings
import Derived.Lib.Slices
import Derived.Lib.Small
import Derived.Lib.Walk
import Derived.Lib.BitFns
import Derived.Deep.RegionWith
import Derived.Laws.ResultCell
import Derived.Laws.Rows
import Derived.ProofKit
import Derived.OpenShut
import Derived.ShutString
import Derived.ChangeOld
import Derived.SizedLaws
import Derived.Deep.CutRange
import Derived.Laws.AppendOwnNone
import Derived.Deep.RegionLaw
import Derived.Deep.AppendLies
import Derived.Lib.AppendZerosOnto
import Derived.Deep.DeepMust
namespace Go.Proofs.YtmkggpgpiepjfaaDoor
section
open Go.RowKit
set_option maxHeartbeats 400000 in
theorem ref_num (A : Option Addr) (c n : Nat) (x : List UInt8) (w : World) (B : Nat) (h : Sees w B A (Us x)) (l : n = x.length) (m : n ≤ maxLen) :
    Calls Tryd.prog 59 #[.slice A n c] w fun e w' => NumEnd x e ∧ w' = w := by
  unfold maxLen at m
  have L := Lib.hid l
  clear l
  by_cases h7 : n ≤ 7
  · have d0 : decide ((7 : Int) < (n : Int)) = false := by simp; omega
    go_enter Tryd.func59, Tryd.ntmps59
    go_wp2
    go_loop [4, 5] (fun v i => ∃ k q : Nat, k ≤ n ∧ i = .int .i64 k ∧ v = .int .i64 (q : Int) ∧ Hid (q = numO (x.take k))) (fun _ i => n - (intOf i).toNat)
    case atStart => exact ⟨0, 0, Nat.zero_le _, rfl, rfl, Lib.hid rfl⟩
    case round =>
      obtain ⟨k, q, hk, rfl, rfl, HQ⟩ := hrel
      by_cases hlt : k < n
      · have hkx : k < x.length := by have := L.out; omega
        obtain ⟨b1, o1, rfl, g1⟩ := byte_at h (Below.refl B w) hkx
        have hq : q < 281474976710656 := by rw [HQ.out]; exact numO_b x k (by omega) (by omega)
        have hc := UInt8.toNat_lt (x[k]'hkx)
        obtain ⟨d, hd⟩ : ∃ d, d = (x[k]'hkx).toNat := ⟨_, rfl⟩
        rw [← hd] at g1 hc
        have HD := Lib.hid hd
        clear hd
        go_wp2
        go_round
        case rel => exact ⟨k + 1, 256 * q + d, by omega, by go_num, by go_num, Lib.hid (by rw [numO_snoc hkx, ← HQ.out, ← HD.out])⟩
        case measure => simp [intOf]; omega
      · have hf := num_end (x := x) (k := k) (by have := L.out; omega) (by have := L.out; omega) HQ.out
        have HF := Lib.hid hf
        clear hf
        go_wp2
        go_ret2
        exact ⟨HF.out, rfl⟩
  · have hf := num_big (x := x) (by have := L.out; omega)
    have HF := Lib.hid hf
    have d0 : decide ((7 : Int) < (n : Int)) = true := by simp; omega
    clear hf
    go_enter Tryd.func59, Tryd.ntmps59
    go_wp2
    go_ret2
    exact ⟨HF.out, rfl⟩
end
section
section
open Go.RowKit
set_option linter.unusedVariables false
end
section
open Go.RowKit
end
section
open Go.RowKit
end
section
open Go.RowKit
end
section
open Go.RowKit
end
section
open Go.RowKit
end
section
open Go.RowKit
section
variable {w0 w w' : World} {B g k k' cap N : Nat} {l l' : List UInt8} {a b c : Value}
end
end
section
open Go.RowKit
end
section
open Go.RowKit
end
section
open Go.RowKit
end
section
open Go.RowKit
end
section
open Go.RowKit
end
section
open Go.RowKit
set_option linter.unusedVariables false
end
section
open Go.RowKit
set_option linter.unusedVariables false
end
section
open Go.RowKit
set_option linter.unusedVariables false
end
section
open Go.RowKit
set_option linter.unusedVariables false
end
section
open Go.ChangeShapes Go.WideShapes Go.ChangeAt Go.RowKit
variable {H : Type} {enc : TypeId × Value → H} {W : World}
end
section
open Go.ChangeShapes Go.WideShapes Go.ChangeAt Go.RowKit
variable {H : Type} {enc : TypeId × Value → H} {W : World}
end
section
open Go.ChangeShapes Go.WideShapes Go.ChangeAt Go.RowKit
variable {H : Type} {enc : TypeId × Value → H} {W : World}
end
section
open Go.RowKit
end
section
open Go.RowKit
set_option linter.unusedVariables false
end
section
open Go.RowKit
set_option linter.unusedVariables false
end
section
open Go.RowKit
set_option linter.unusedVariables false
end
section
open Go.RowKit
set_option linter.unusedVariables false
end
section
open Go.RowKit
set_option linter.unusedVariables false
end
end
section
open Go.RowKit
set_option linter.unusedVariables false
section
variable {w w' : World} {p p' : Nat → Prop} {A : Option Addr} {cs : List Value}
end
end
section
open Go.RowKit
set_option linter.unusedVariables false
set_option linter.unusedSimpArgs false
theorem r_numberO (v : List UInt8) (n : Nat) (hn : v.length = n) (hz : n ≤ 7) (A : Option Addr) (c : Nat) (w : World) (hs : SeesP w (· < w.heap.size) A (Us v)) :
    Calls Tryd.prog 59 #[.slice A n c] w fun e w' => e = .returned (.tuple #[.int .i64 ((numO v : Nat) : Int), .int .i64 0]) ∧ w = w' :=
  (ref_num A c n v w w.heap.size (SeesP.iff_sees.1 hs) hn.symm (by unfold maxLen; omega)).mono fun _ _ ⟨he, hw⟩ => ⟨by
    unfold NumEnd numV numE at he
    rwa [if_pos (by omega), if_pos (by omega)] at he, hw.symm⟩
end
theorem r_number (v : List UInt8) (n : Nat) (hn : v.length = n) (hz : n ≤ 7) (A : Option Addr) (c : Nat) (w : World) (hs : SeesP w (· < w.heap.size) A (Us v)) :
    Calls Tryd.prog 59 #[.slice A n c] w fun e w' => e = .returned (.tuple #[.int .i64 ((numL v : Nat) : Int), .int .i64 0]) ∧ w = w' := by
  rw [← numO_eq]
  exact r_numberO v n hn hz A c w hs
end Go.Proofs.YtmkggpgpiepjfaaDoor
