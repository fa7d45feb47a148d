/-
  What is proved here: plain facts: bytes that are read strictly are the encoding of the objects that were read.
-/
import Derived.Test.YtnlhbknajdpnbaaGreatDoorF9
set_option linter.unusedVariables false
set_option linter.unusedSimpArgs false
namespace Go.Proofs.YtnlhbknajdpnbaaGreatDoor
open Go.RowKit
set_option maxRecDepth 8000
theorem zdU (a:UInt8):UInt8.ofNat a.toNat=a:=by simp
theorem tag_back {l : List UInt8} (h : tagE l = 0) : l = tagL (tagV l) ++ l.drop (tagN (tagV l : Nat)) ∧ zaA (tagV l : Nat) = true := by
 match l,h with
 | [],h=>simp [tagE] at h
 | [a], h =>
   have ha:=UInt8.toNat_lt a
   simp only [tagE] at h
   split at h
   · simp at h
   · split at h
     · rename_i hv
       have hN:tagN (a.toNat:Int)=1:=by unfold tagN;rw [if_neg (by omega)]
       simp only [tagV]
       refine ⟨?_,hv⟩
       unfold tagL
       rw [hN,if_neg (by omega),zdU]
       rfl
     · simp at h
 | a :: b :: r, h =>
   have ha:=UInt8.toNat_lt a
   have hb:=UInt8.toNat_lt b
   simp only [tagE] at h
   simp only [tagV]
   split at h
   · rename_i h31
     rw [if_pos h31]
     split at h
     · rename_i hv
       have hN:tagN ((a.toNat*256+b.toNat:Nat):Int)=2:=by unfold tagN;rw [if_pos (by omega)]
       refine ⟨?_,hv⟩
       unfold tagL
       rw [hN,if_pos (by omega)]
       have e1:(a.toNat*256+b.toNat) / 256=a.toNat:=by omega
       have e2 : UInt8.ofNat (a.toNat * 256 + b.toNat) = b := by
        apply UInt8.toNat_inj.mp
        rw [zew];omega
       rw [e1,e2,zdU]
       rfl
     · simp at h
   · rename_i h31
     rw [if_neg h31]
     split at h
     · rename_i hv
       have hN:tagN (a.toNat:Int)=1:=by unfold tagN;rw [if_neg (by omega)]
       refine ⟨?_,hv⟩
       unfold tagL
       rw [hN,if_neg (by omega),zdU]
       rfl
     · simp at h
end Go.Proofs.YtnlhbknajdpnbaaGreatDoor
