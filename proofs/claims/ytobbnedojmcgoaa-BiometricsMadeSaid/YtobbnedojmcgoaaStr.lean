/-
  What is proved here: the conversion of a byte slice to a string, where the slice lies in memory.
-/
import Derived.Test.YtobbnedojmcgoaaRows
import Derived.Test.YtobbnedojmcgoaaKit
namespace Go.Proofs.Ytobbnedojmcgoaa
open Go.RowKit

/-- the string of these bytes -/
def S (x : List UInt8) : ByteArray := ⟨x.toArray⟩
theorem S_size (x : List UInt8) : (S x).size = x.length := by simp [S, ByteArray.size]
theorem S_data (x : List UInt8) : (S x).data.toList = x := by simp [S]
theorem S_inj {x y : List UInt8} (h : S x = S y) : x = y := by have := congrArg (fun s => s.data.toList) h; simpa [S] using this

theorem run_conv (w : World) (B : Nat) (A : Option Addr) (x : List UInt8) (h : Sees w B A (Us x)) (n c : Nat) (hn : n = x.length) :
    (convert 25 9 (.slice A n c)).run Try.prog w = .ok (.string (S x)) w := by
  subst hn
  have hx : strOfNums (x.map fun u => (u.toNat : Int)) = S x := by
    simp [strOfNums, S, Function.comp_def]
  rcases h with h | ⟨b, off, rfl, hb, hc⟩
  · have : x = [] := by simpa [Us] using h
    subst this
    rcases A with _ | a
    · exact run_convert_bytes_nil w _ _ Try.underlying25 Try.underlying5 _ _ _ Try.underlying9
    · rw [run_convert_bytes_string w _ _ _ _ _ _ Try.underlying25 Try.underlying5 Try.underlying9]
      exact run_bytesToString w a 0 c [] (by simpa using run_loadCells_list (P := Try.prog) w a [] (fun j v hj => by simp at hj))
  · have := run_convert_bytes_arg (P := Try.prog) w 25 5 Try.underlying25 Try.underlying5 b off x.length c (x.map fun u => (u.toNat : Int)) (by simp)
      (fun i hi => by rw [hc i (by rw [Us_length]; exact hi), Us_get hi]; simp [hi]) 9 Try.underlying9
    rw [hx] at this
    exact this

theorem S_toList (x : List UInt8) : (S x).toList = x := ByteArray.toList_mk x

end Go.Proofs.Ytobbnedojmcgoaa
