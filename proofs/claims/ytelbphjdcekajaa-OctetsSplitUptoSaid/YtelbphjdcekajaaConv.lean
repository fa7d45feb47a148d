/-
  What is proved here: the conversion of a byte slice to a string, and what bytes.Equal and the program's Same return, where each argument lies in memory.
-/
import Derived.Test.YtelbphjdcekajaaRows
import Derived.Test.YtelbphjdcekajaaKit
import Derived.Test.YtelbphjdcekajaaRef
namespace Go.Proofs.Ytelbphjdcekajaa
open Go.RowKit

/-- the string of these bytes -/
def S (x : List UInt8) : ByteArray := ⟨x.toArray⟩
theorem S_size (x : List UInt8) : (S x).size = x.length := by simp [S, ByteArray.size]
theorem S_data (x : List UInt8) : (S x).data.toList = x := by simp [S]
theorem S_inj {x y : List UInt8} (h : S x = S y) : x = y := by have := congrArg (fun s => s.data.toList) h; simpa [S] using this

theorem run_conv (w : World) (B : Nat) (A : Option Addr) (x : List UInt8) (h : Sees w B A (Us x)) (n c : Nat) (hn : n = x.length) :
    (convert 22 9 (.slice A n c)).run Try.prog w = .ok (.string (S x)) w := by
  subst hn
  have hx : strOfNums (x.map fun u => (u.toNat : Int)) = S x := by
    simp [strOfNums, S, Function.comp_def]
  rcases h with h | ⟨b, off, rfl, hb, hc⟩
  · have : x = [] := by simpa [Us] using h
    subst this
    rcases A with _ | a
    · exact run_convert_bytes_nil w _ _ Try.underlying22 Try.underlying5 _ _ _ Try.underlying9
    · rw [run_convert_bytes_string w _ _ _ _ _ _ Try.underlying22 Try.underlying5 Try.underlying9]
      exact run_bytesToString w a 0 c [] (by simpa using run_loadCells_list (P := Try.prog) w a [] (fun j v hj => by simp at hj))
  · have := run_convert_bytes_arg (P := Try.prog) w 22 5 Try.underlying22 Try.underlying5 b off x.length c (x.map fun u => (u.toNat : Int)) (by simp)
      (fun i hi => by rw [hc i (by rw [Us_length]; exact hi), Us_get hi]; simp [hi]) 9 Try.underlying9
    rw [hx] at this
    exact this

theorem S_toList (x : List UInt8) : (S x).toList = x := ByteArray.toList_mk x

theorem bytes_equal (A1 A2 : Option Addr) (c1 c2 n1 n2 : Nat) (x y : List UInt8) (w : World) (B : Nat) (h1 : Sees w B A1 (Us x)) (h2 : Sees w B A2 (Us y)) (l1 : n1 = x.length) (l2 : n2 = y.length) :
    Calls Try.prog 26 #[.slice A1 n1 c1, .slice A2 n2 c2] w fun e w' => e = .returned (.bool (sameB x y)) ∧ w' = w := by
  have r1 := run_conv w B A1 x h1 n1 c1 l1
  have r2 := run_conv w B A2 y h2 n2 c2 l2
  clear l1 l2
  go_enter Try.func26, Try.ntmps26
  go_wp2
  go_ret
  exact ⟨by rw [S_toList, S_toList]; rfl, rfl⟩

theorem oct_same (A1 A2 : Option Addr) (c1 c2 n1 n2 : Nat) (x y : List UInt8) (w : World) (B : Nat) (h1 : Sees w B A1 (Us x)) (h2 : Sees w B A2 (Us y)) (l1 : n1 = x.length) (l2 : n2 = y.length) :
    Calls Try.prog 20 #[.slice A1 n1 c1, .slice A2 n2 c2] w fun e w' => e = .returned (.bool (sameB x y)) ∧ w' = w := by
  have L1 := Lib.hid l1
  have L2 := Lib.hid l2
  clear l1 l2
  go_enter Try.func20, Try.ntmps20
  go_wp2_with (go_at_call 26; refine (bytes_equal A1 A2 c1 c2 n1 n2 x y _ B h1 h2 L1.out L2.out).mono ?_; rintro e w' ⟨rfl, rfl⟩)
  go_ret
  exact ⟨rfl, rfl⟩

/-! the same, for a caller that carries its facts over whatever worlds -/
theorem ref_same_b (A1 A2 : Option Addr) (c1 c2 : Nat) (x y : List UInt8) (w : World) (h1 : Sees w w.heap.size A1 (Us x)) (h2 : Sees w w.heap.size A2 (Us y)) (m1 : x.length ≤ maxLen) :
    Calls Try.prog 13 #[.slice A1 x.length c1, .slice A2 y.length c2] w fun e w' => e = .returned (.bool (sameB x y)) ∧ Below w.heap.size w w' :=
  (ref_same A1 A2 c1 c2 _ _ x y w _ h1 h2 rfl rfl m1).mono fun _ _ ⟨he, d, hw⟩ => ⟨he, by rw [hw]; exact below_drewN _ _ _⟩
theorem ref_same_yes (A1 A2 : Option Addr) (c1 c2 : Nat) (x : List UInt8) (w : World) (h1 : Sees w w.heap.size A1 (Us x)) (h2 : Sees w w.heap.size A2 (Us x)) (m1 : x.length ≤ maxLen) :
    Calls Try.prog 13 #[.slice A1 x.length c1, .slice A2 x.length c2] w fun e w' => e = .returned (.bool true) ∧ Below w.heap.size w w' := by
  have h := ref_same_b A1 A2 c1 c2 x x w h1 h2 m1
  rw [sameB_true rfl] at h
  exact h
theorem oct_same_b (A1 A2 : Option Addr) (c1 c2 : Nat) (x y : List UInt8) (w : World) (h1 : Sees w w.heap.size A1 (Us x)) (h2 : Sees w w.heap.size A2 (Us y)) :
    Calls Try.prog 20 #[.slice A1 x.length c1, .slice A2 y.length c2] w fun e w' => e = .returned (.bool (sameB x y)) ∧ Below w.heap.size w w' :=
  (oct_same A1 A2 c1 c2 _ _ x y w _ h1 h2 rfl rfl).mono fun _ _ ⟨he, hw⟩ => ⟨he, by rw [hw]; exact Below.refl _ _⟩
theorem oct_same_yes (A1 A2 : Option Addr) (c1 c2 : Nat) (x : List UInt8) (w : World) (h1 : Sees w w.heap.size A1 (Us x)) (h2 : Sees w w.heap.size A2 (Us x)) :
    Calls Try.prog 20 #[.slice A1 x.length c1, .slice A2 x.length c2] w fun e w' => e = .returned (.bool true) ∧ Below w.heap.size w w' := by
  have h := oct_same_b A1 A2 c1 c2 x x w h1 h2
  rw [sameB_true rfl] at h
  exact h

end Go.Proofs.Ytelbphjdcekajaa
