/-
  What is proved here: plain words for a row of bytes that a call appends to; nothing of the program is used but its table of types.
-/
import Derived.Test.YtdlcoilpkelbaaaGreatDoorRows
import Derived.Test.YtdlcoilpkelbaaaGreatDoorKit
namespace Go.Proofs.YtdlcoilpkelbaaaGreatDoor
open Go.RowKit

theorem info_u8b : (Tryz.prog.info? 5).map (fun i => (i.zero, i.size, i.bytes)) = some (some (.int .u8 0), 1, 1) := by kernel_rfl

/-- the row at block g holds the bytes l -/
def Out (w : World) (B g k cap : Nat) (l : List UInt8) : Prop := w.ownsRow B 5 1 (.slice (some ⟨g, 0, none⟩) k cap) k (Us l)
/-- what a call answers that appends n bytes, l then being what is there in all -/
def Puts (w : World) (B g k cap : Nat) (l : List UInt8) (e : Ending) (w' : World) : Prop :=
  e = .returned (.slice (some ⟨g, 0, none⟩) k cap) ∧ Out w' B g k cap l ∧ w.grownBy w' (some g)

theorem byteU (n : Nat) : Value.int .u8 ((n : Int) % 256) = U (UInt8.ofNat n) := by
  unfold U
  rw [UInt8.toNat_ofNat']
  congr 1
theorem one_cell1 (z : Int) : ∀ u ∈ [Value.int .u8 z], u.oneCell' = true := by
  intro u hu
  simp only [List.mem_singleton] at hu
  subst hu
  rfl
theorem Out.byte {w : World} {B g k cap : Nat} {l : List UInt8} {z : Int} (b : UInt8) (hz : z = (b.toNat : Int)) (h : w.ownsRow B 5 1 (.slice (some ⟨g, 0, none⟩) k cap) k (Us l ++ [Value.int .u8 z])) : Out w B g k cap (l ++ [b]) := by
  unfold Out
  rw [Us_append]
  have : Us [b] = [Value.int .u8 z] := by rw [hz]; rfl
  rw [this]
  exact h
theorem grown_trans {a b c : World} {g : Nat} (h : a.grownBy b (some g)) (k : b.grownBy c (some g)) : a.grownBy c (some g) := by
  obtain ⟨h1, h2, h3, h4, h5⟩ := h
  obtain ⟨k1, k2, k3, k4, k5⟩ := k
  exact ⟨k1.trans h1, k2.trans h2, k3.trans h3, Nat.le_trans h4 k4, fun i hi hn => (k5 i (Nat.lt_of_lt_of_le hi h4) hn).trans (h5 i hi hn)⟩
theorem grown_below {a b : World} {row : Option Nat} (h : Below a.heap.size a b) : a.grownBy b row :=
  ⟨h.os, h.tape, h.output, h.size, fun i hi _ => h.block i hi⟩
theorem grown_alloc (a : World) (o : Obj) (row : Option Nat) : a.grownBy (a.alloc o) row := grown_below ((Below.refl _ _).alloc (Nat.le_refl _) o)

end Go.Proofs.YtdlcoilpkelbaaaGreatDoor
