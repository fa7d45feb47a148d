/-
  What is proved here: the makers' dice and what they stand on (parts of texts of earlier layers).
-/
import Derived.Test.YtkdlfbggddllhaaPR4
import Derived.Test.YtkdlfbggddllhaaPR5
import Derived.Lib.AppendZerosOnto
import Derived.Test.YtkdlfbggddllhaaRows
import Derived.Test.YtkdlfbggddllhaaPR0
import Derived.Test.YtkdlfbggddllhaaPR7
import Derived.BigQuiet
import Derived.Test.YtkdlfbggddllhaaPR8
import Derived.ProofKit
import Derived.OpenShut
import Derived.ShutString
import Derived.ChangeOld
import Derived.SizedLaws
import Derived.Test.YtkdlfbggddllhaaPR10
import Derived.Test.YtkdlfbggddllhaaPR11
import Derived.Test.YtkdlfbggddllhaaPR1
import Derived.Test.YtkdlfbggddllhaaPR2
import Derived.Test.YtkdlfbggddllhaaPR12
import Derived.Test.YtkdlfbggddllhaaPR13
import Derived.Test.YtkdlfbggddllhaaPR9
import Derived.Lib.Strings
import Derived.Lib.Slices
import Derived.Lib.Small
import Derived.Lib.Walk
import Derived.Lib.BitFns
import Derived.Deep.RegionWith
import Derived.Laws.ResultCell
import Derived.Laws.Rows
import Derived.Deep.CutRange
import Derived.Laws.AppendOwnNone
import Derived.Deep.RegionLaw
import Derived.Deep.AppendLies
set_option linter.unusedVariables false
set_option linter.unusedSimpArgs false
namespace Go.Proofs.Ytkdlfbggddllhaa
section
open Go.RowKit
end
section
open Go.RowKit
end
section
open Go.RowKit
end
section
open Go.RowKit
end
section
open Go.RowKit
end
section
open Go.RowKit
end
section
open Go.RowKit
section
variable {w0 w w':World} {B g k k' cap N:Nat} {l l':List UInt8} {a b c:Value}
end
end
section
open Go.RowKit
end
section
open Go.RowKit
end
section
open Go.RowKit
end
section
open Go.RowKit
end
section
open Go.RowKit
end
section
open Go.RowKit
end
section
open Go.RowKit
end
section
open Go.RowKit
def zaJ (w:World) (D most:Nat) (e:Ending) (w':World):Prop:=∃(v:List UInt8) (A:Option Addr) (c:Nat),e=.returned (.slice A v.length c)∧v.length≤most∧(A=none→c=0)∧v.length≤c∧SeesP w' (newB w w') A (Us v)∧w.grownBy w' (some D)∧DiceOk w' D
def BRel_Bb (w:World) (D:Nat) (a:Value) (k:Nat) (wr:World):Prop:=(∃l:List UInt8,l.length=k∧wr.ownsRow w.heap.size 5 1 a k (Us l))∧w.grownBy wr (some D)∧DiceOk wr D
set_option maxHeartbeats 1000000 in
theorem dice_bytes_Bb (D most : Nat) (w : World) (hm : most ≤ 1000) (h : DiceOk w D) :
 Calls Try.prog 26 #[.pointer (some ⟨D,0,none⟩),.int .i64 (most:Int)] w (zaJ w D most):=by
 obtain ⟨i0,hi,hz0,hz1,hz2⟩:=info_parts info_u8b
 have hDw:=h.lt
 have hN:=dice_next D (most+1) w (by omega) (by omega) h
 have ec:((most+1:Nat):Int)=(most:Int)+1:=by omega
 rw [ec] at hN
 have HN:=Lib.hid hN
 clear hN ec h
 go_enter Try.func26,Try.ntmps26
 go_wp2_with fail
 refine HN.out.mono ?_
 rintro e w1 ⟨r,hr,rfl,hg,hd⟩
 have H1:=Lib.hid (show BRel_Bb w D (.slice none 0 0) 0 w1 from ⟨⟨[],rfl,⟨rfl,.inl ⟨rfl,rfl⟩⟩⟩,hg,hd⟩)
 clear HN hg hd
 go_wp2_with fail
 go_loopw [5,6] (fun a i wr=>∃k:Nat,k≤r∧i=.int .i64 ((r:Int) - (k:Int))∧Hid (BRel_Bb w D a k wr)) (fun _ i _=>(intOf i).toNat)
 case atStart=>exact ⟨0,Nat.zero_le _,by go_num,H1⟩
 case round =>
  clear H1
  obtain ⟨k,hk,rfl,HB⟩:=hrel
  by_cases hlt:k < r
  · have d1 : decide ((0 : Int) < (r : Int) - (k : Int)) = true := by simp; omega
    have HN:=Lib.hid (dice_next D 256 wr (by decide) (by decide) HB.out.2.2)
    go_wp2_with fail
    refine HN.out.mono ?_
    rintro e w2 ⟨x,hx,rfl,hg,hd⟩
    obtain ⟨l,hl,hown⟩:=HB.out.1
    have hown2 : w2.ownsRow w.heap.size 5 1 u5 k (Us l) := own_far hown hg (by
     rcases hown.2 with ⟨e,_⟩ | ⟨g,cap,cur,e,hb,_⟩
     · rw [e];simp [Value.ownBlock]
     · rw [e];simp [Value.ownBlock];omega)
    have HG:=Lib.hid (show _∧_∧_ from ⟨zas HB.out.2.1 hg,hd,hl⟩)
    clear hown hg hd HN hl
    go_wp2_with (at_builtin;refine wpList_append_own _ rfl (.tmp 15) (.tmp 19) 45 rfl w.heap.size 5 i0 (.int .u8 0) 1 1 Try.underlying45 hi hz0 hz1 hz2 rfl (by decide) u5 k _ rfl (hown2.alloc _) ⟨w2.heap.size,0,none⟩ 1 1 [_] rfl rfl (news_of_one _ _ _) (one_cell1 _) (by unfold maxLen;omega) (by omega) (by have:=HG.out.1.size;simp;omega) ?_;intro v3 w3 ho hg3 _)
    have hrow : w3.ownsRow w.heap.size 5 1 v3 (k + 1) (Us (l ++ [UInt8.ofNat x])) := by
     rw [zaH]
     have:Us [UInt8.ofNat x]=[Value.int .u8 (x:Int)]:=by rw [byte_of_mod x hx];rfl
     rw [this]
     exact ho
    have hgw:=zaU (zas HG.out.1 (zaw w2 (.cells #[.int .u8 (x:Int)] 5) (some D))) hg3 (fun g e=>(hown2.lt g e).1)
    have hdd:DiceOk w3 D:=(HG.out.2.1.below ((Below.refl _ _).alloc (Nat.le_refl _) (.cells #[.int .u8 (x:Int)] 5))).grown hg3 (fun g e=>by have:=(hown2.lt g e).1;omega)
    have HF:=Lib.hid (show BRel_Bb w D v3 (k+1) w3 from ⟨⟨_,by rw [List.length_append,HG.out.2.2];rfl,hrow⟩,hgw,hdd⟩)
    clear hrow hgw hdd ho hg3 hown2
    go_roundw
    case rel=>exact ⟨k+1,by omega,by go_num,HF⟩
    case measure=>simp [intOf];omega
  · obtain rfl : k = r := by omega
    have d1:decide ((0:Int) < (k:Int) - (k:Int))=false:=by simp
    obtain ⟨l,hl,hown⟩:=HB.out.1
    have hb : zaJ w D most (.returned u5) wr := by
     rcases hown.2 with ⟨e,h0⟩ | ⟨g,cap,cur,e,hb,hh,hn,hmx,hs,ht⟩
     · have : l = [] := List.eq_nil_of_length_eq_zero (by omega)
       subst this
       exact ⟨[],none,0,by rw [e];rfl,by simp,fun _=>rfl,by simp,.inl rfl,HB.out.2.1,HB.out.2.2⟩
     · refine ⟨l, some ⟨g, 0, none⟩, cap, by rw [e, hl], by omega, (fun e2 => by cases e2), by omega, Or.inr ⟨g, 0, rfl, ⟨hb, lt_of_block hh⟩, fun j hj => ?_⟩, HB.out.2.1, HB.out.2.2⟩
       rw [zam] at hj
       rw [Nat.zero_add,cell_of_row wr g j cur _ (0,0) hh,←ht,List.getElem?_take,if_pos (by omega),Array.getElem?_toList]
    have HF:=Lib.hid hb
    clear hb hown HB
    go_wp2_with fail
    go_ret
    exact HF.out
end
section
open Go.RowKit
theorem made_roll_Bb (A : Option Addr) (c : Nat) (ls : List Int) (w : World) (hl : ls.length ≤ 140737488351232) (hr : ∀ x ∈ ls, -9223372036854775808 ≤ x ∧ x ≤ 9223372036854775807) (hs : SeesP w (· < w.heap.size) A (ls.map (Value.int .i64))) :
 Calls Try.prog 11 #[.slice A ls.length c] w fun e w'=>e=.returned (.pointer (some ⟨w.heap.size,0,none⟩))∧DiceOk w' w.heap.size∧Below w.heap.size w w':=by
 have hd : DiceOk (w.alloc (.cells #[.slice A ls.length c, .int .i64 0] 68)) w.heap.size :=
  ⟨A,c,0,ls,heap_alloc_new w _,Nat.zero_le _,hl,hr,hs.keep fun q hq=>World.cell?_alloc_lt w _ q hq⟩
 have HD:=Lib.hid hd
 clear hd hs hr
 go_enter Try.func11,Try.ntmps11
 go_wp2
 go_ret
 exact ⟨rfl,HD.out,(Below.refl _ _).alloc (Nat.le_refl _) _⟩
end
section
open Go.ChangeShapes Go.WideShapes Go.ChangeAt Go.RowKit
variable {H:Type} {enc:TypeId×Value→H} {W:World}
end
section
open Go.ChangeShapes Go.WideShapes Go.ChangeAt Go.RowKit
variable {H:Type} {enc:TypeId×Value→H} {W:World}
end
section
open Go.ChangeShapes Go.WideShapes Go.ChangeAt Go.RowKit
variable {H:Type} {enc:TypeId×Value→H} {W:World}
end
section
open Go.RowKit
end
section
open Go.RowKit
end
section
open Go.RowKit
end
section
open Go.RowKit
end
section
open Go.RowKit
end
section
open Go.RowKit
end
end Go.Proofs.Ytkdlfbggddllhaa
