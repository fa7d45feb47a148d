/-
  What is proved here: the number of the first seven bytes of bytes that lie in memory: octets.Number, the references' Number.
-/
import Derived.Test.YtaikoeoabgkglaaDoorMn
import Derived.Test.YtaikoeoabgkglaaDoorNum
namespace Go.Proofs.YtaikoeoabgkglaaDoor
open Go.RowKit
set_option linter.unusedVariables false

/-- the number of seven bytes that lie in memory -/
theorem num_7 {y : List UInt8} {m : Nat} (hy : y.length = 7) (hm : numL y = m) {e : Ending} (h : NumEnd y e) : e = .returned (.tuple #[.int .i64 (m : Int), .int .i64 0]) := by
  unfold NumEnd numV numE at h
  rw [if_pos (by omega), if_pos (by omega), hm] at h
  exact h
theorem prog_num7 {y : List UInt8} {m : Nat} {A : Option Addr} {c : Nat} {w : World} (hy : y.length = 7) (hm : numL y = m) (hs : SeesP w (· < w.heap.size) A (Us y)) :
    Calls Tryd.prog 38 #[.slice A 7 c] w fun e w' => e = .returned (.tuple #[.int .i64 (m : Int), .int .i64 0]) ∧ w = w' :=
  (oct_num A c 7 y w w.heap.size (SeesP.iff_sees.1 hs) hy.symm (by decide)).mono fun e w' h => ⟨num_7 hy hm h.1, h.2.symm⟩
theorem ref_num7 {y : List UInt8} {m : Nat} {A : Option Addr} {c : Nat} {w : World} (hy : y.length = 7) (hm : numL y = m) (hs : SeesP w (· < w.heap.size) A (Us y)) :
    Calls Tryd.prog 39 #[.slice A 7 c] w fun e w' => e = .returned (.tuple #[.int .i64 (m : Int), .int .i64 0]) ∧ w = w' :=
  (ref_num A c 7 y w w.heap.size (SeesP.iff_sees.1 hs) hy.symm (by decide)).mono fun e w' h => ⟨num_7 hy hm h.1, h.2.symm⟩
theorem num7_lt {y : List UInt8} (hy : y.length = 7) : numL y < 72057594037927936 := by
  have := numL_lt y 7 (by omega)
  rwa [List.take_of_length_le (by omega)] at this
theorem ref_number7 {y : List UInt8} {m : Nat} {A : Option Addr} {n c : Nat} {w : World} (hy : (y.take 7).length = 7) (hm : numL (y.take 7) = m) (hc : 7 ≤ c) (hs : SeesP w (· < w.heap.size) A (Us y)) (hmb : m < 72057594037927936) :
    Calls Tryd.prog 25 #[.slice A n c, .int .i64 1073741788] w fun e w' => e = .returned (.int .i64 ((m % 1073741788 : Nat) : Int)) ∧ w = w' := by
  have H := Lib.hid (show _ ∧ _ ∧ _ from ⟨hy, hm, hs⟩)
  obtain ⟨r, hr⟩ : ∃ r, r = m % 1073741788 := ⟨_, rfl⟩
  have hri : (m : Int) % 1073741788 = (r : Int) := by omega
  rw [← hr]
  clear hy hm hs hr
  go_enter Tryd.func25, Tryd.ntmps25
  go_wp2_with (go_at_call 39; ((with_reducible refine (ref_num7 H.out.1 H.out.2.1 (H.out.2.2.first 7)).mono ?_); rintro e w2 ⟨rfl, rfl⟩))
  go_ret
  exact ⟨by rw [← hri]; rfl, rfl⟩
theorem ref_number7q {y : List UInt8} {m : Nat} {A : Option Addr} {n c : Nat} {w : World} (hy : (y.take 7).length = 7) (hm : numL (y.take 7) = m) (hc : 7 ≤ c) (hs : SeesP w (· < w.heap.size) A (Us y)) (hmb : m < 72057594037927936) :
    Calls Tryd.prog 25 #[.slice A n c, .int .i64 1073741789] w fun e w' => e = .returned (.int .i64 ((m % 1073741789 : Nat) : Int)) ∧ w = w' := by
  have H := Lib.hid (show _ ∧ _ ∧ _ from ⟨hy, hm, hs⟩)
  obtain ⟨r, hr⟩ : ∃ r, r = m % 1073741789 := ⟨_, rfl⟩
  have hri : (m : Int) % 1073741789 = (r : Int) := by omega
  rw [← hr]
  clear hy hm hs hr
  go_enter Tryd.func25, Tryd.ntmps25
  go_wp2_with (go_at_call 39; ((with_reducible refine (ref_num7 H.out.1 H.out.2.1 (H.out.2.2.first 7)).mono ?_); rintro e w2 ⟨rfl, rfl⟩))
  go_ret
  exact ⟨by rw [← hri]; rfl, rfl⟩

end Go.Proofs.YtaikoeoabgkglaaDoor
