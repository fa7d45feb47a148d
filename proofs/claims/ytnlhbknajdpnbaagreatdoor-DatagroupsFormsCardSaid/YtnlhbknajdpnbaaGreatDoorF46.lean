/-
  What is proved here: the two tables of tags lie as the laws lay them.
-/
import Derived.Test.YtnlhbknajdpnbaaGreatDoorF45
import Derived.Test.YtnlhbknajdpnbaaGreatDoorF7
import Derived.Test.YtnlhbknajdpnbaaGreatDoorCards
import Derived.Test.YtnlhbknajdpnbaaGreatDoorTie
import Derived.LaidMore
import Derived.Lay
import Derived.SevenTiedAt
import Derived.Stop.Joined
import Derived.Laws.IdiomArrays
import Derived.Deep.Slices
set_option linter.unusedVariables false
set_option linter.unusedSimpArgs false
namespace Go.Proofs.YtnlhbknajdpnbaaGreatDoor
open Go.ChangeShapes Go.WideShapes Go.ChangeAt Go.RowKit Go.Deep
set_option maxRecDepth 8000
theorem zgg {H : Type} {enc : TypeId × Value → H} {P : Program} {w : World} {base : Nat} {sp : Nat → Bool} {held : Bool} {fuel : Nat} {t e : TypeId} {n : Nat} {k : IntKind} {cs : List Value} {q : List MemPlace} (zs : List Int)
 (ht:P.underlying t=some (.array n e)) (he:P.underlying e=some (.int k)) (hc:P.cellsOf e=1) (hn:zs.length=n)
 (h:DataW.trod enc P w base sp held fuel t cs=some (.agg (zs.map fun z=>.lit (.int k z)),q)) (j:Nat) (hj:j < zs.length):cs[j]? = some (.int k zs[j]):=by
 obtain ⟨xs,m,_,ex,_,hl,hel⟩:=DataW.trod_array ht h
 have hE:=hel j (by omega)
 rw [hc,Nat.mul_one,List.getElem?_eq_getElem (by omega)] at hE
 obtain ⟨z,e1,e2,_⟩:=DataW.trod_int he hE
 have e3:(xs.map (·.1))=zs.map fun n=>.lit (.int k n):=(DataW.agg.inj (Prod.mk.inj ex).1).symm
 have e4:(xs.map (·.1))[j]? = (zs.map fun n=>(DataW.lit (.int k n):DataW H))[j]? := by rw [e3]
 rw [List.getElem?_map,List.getElem?_map,List.getElem?_eq_getElem (by omega:j < xs.length),List.getElem?_eq_getElem hj,e2] at e4
 have hz:z=zs[j]:=by simpa using e4
 have h0:((cs.drop j).take 1)[0]? = some (.int k z):=by rw [e1];rfl
 rw [←hz]
 simpa using h0
theorem cell_lt15 {W : World} {g k : Nat} {v : Value} (h : W.cell? ⟨g, k, none⟩ = some v) : g < W.heap.size := by
 rcases Nat.lt_or_ge g W.heap.size with h1 | h1
 · exact h1
 · unfold World.cell? at h
   simp [Array.getElem?_eq_none h1] at h
theorem laid_t15:Rows.laid_traveldoc_datagroups_tags (H:=Unit)=.agg (zbD.map fun z=>.lit (.int .i64 z)):=by kernel_rfl
theorem laid_g15:Rows.laid_traveldoc_traveldocref15_tags (H:=Unit)=.agg (zbD.map fun z=>.lit (.int .i64 z)):=by kernel_rfl
def zfv : List (String × DataW Unit) := [("traveldoc/traveldocref15.tags", Rows.laid_traveldoc_traveldocref15_tags), ("traveldoc/datagroups.tags", Rows.laid_traveldoc_datagroups_tags)]
abbrev laidKinds15:List LaidKind:=[.data,.data]
theorem tags_getD:∀k (h:k < zbD.length),zbD.getD k 0=zbD[k]:=fun k h=>by rw [List.getD,List.getElem?_eq_getElem h];rfl
theorem of_laid15 {W : World} (h : laidMetH Tryz.prog zfv W) : TabT W ∧ TabG W := by
 rw [MakeChecks.laidMetH_plain _ _ _ (by kernel_rfl)] at h
 obtain ⟨ps,⟨g1,t1,c1,f1,p1,q1,hg1,ht1,hv1,hd1,⟨g2,t2,c2,f2,p2,q2,hg2,ht2,hv2,hd2,_,_⟩,_⟩,_,_⟩:=h
 obtain rfl := Option.some.inj ((show Tryz.prog.globalNamed "traveldoc/traveldocref15.tags" = some 1 by kernel_rfl).symm.trans hg1)
 obtain rfl:=Option.some.inj ((show (Tryz.prog.globals[1]?).map (·.type)=some 103 by kernel_rfl).symm.trans ht1)
 obtain rfl := Option.some.inj ((show Tryz.prog.globalNamed "traveldoc/datagroups.tags" = some 0 by kernel_rfl).symm.trans hg2)
 obtain rfl:=Option.some.inj ((show (Tryz.prog.globals[0]?).map (·.type)=some 103 by kernel_rfl).symm.trans ht2)
 have k1 : ∀ k : Nat, k < 18 → W.cell? ⟨1, k, none⟩ = some (.int .i64 (zbD.getD k 0)) := by
  intro k hk
  rw [show Rows.laid_traveldoc_traveldocref15_tags (H:=Unit)=_ from laid_g15] at hd1
  have e:=zgg zbD Tryz.underlying103 Tryz.underlying3 (by kernel_rfl) rfl hd1 k hk
  rw [World.var?_cell hg1 hv1 k,tags_getD k hk]
  simpa using e
 have k2 : ∀ k : Nat, k < 18 → W.cell? ⟨0, k, none⟩ = some (.int .i64 (zbD.getD k 0)) := by
  intro k hk
  rw [show Rows.laid_traveldoc_datagroups_tags (H:=Unit)=_ from laid_t15] at hd2
  have e:=zgg zbD Tryz.underlying103 Tryz.underlying3 (by kernel_rfl) rfl hd2 k hk
  rw [World.var?_cell hg2 hv2 k,tags_getD k hk]
  simpa using e
 exact ⟨⟨cell_lt15 (k2 0 (by decide)),k2⟩,⟨cell_lt15 (k1 0 (by decide)),k1⟩⟩
end Go.Proofs.YtnlhbknajdpnbaaGreatDoor
