/-
  What is proved here: plain words for regions that draw their order and whose callees lay blocks of their own (the library's class of worlds, in the words of Below). Nothing of the program is used.
-/
import Derived.Test.YtkdlfbggddllhaaPR2
import Derived.Lib.QuietBelow
import Derived.Test.YtkdlfbggddllhaaRows
import Derived.Test.YtkdlfbggddllhaaPR0
set_option linter.unusedVariables false
set_option linter.unusedSimpArgs false
namespace Go.Proofs.Ytkdlfbggddllhaa
open Go.RowKit
theorem zar {w w' : World} (h : ∃ p : Regrown, w' = Go.Sort.grow (redrawn w p.d) p.os) : Below w.heap.size w w' := by
 obtain ⟨p,rfl⟩:=h
 exact below_regrown w p.d p.os
theorem quiet_up {P : Program} {f : FuncId} {args : Array Value} {w : World} {v : Value} (h : ∀ w', Below w.heap.size w w' → Calls P f args w' fun e w'' => e = .returned v ∧ Below w'.heap.size w' w'') (d : Nat) (os : Array Obj) :
 Calls P f args (Go.Sort.grow (redrawn w d) os) fun e w''=>e=.returned v∧∃p:Regrown,w''=Go.Sort.grow (redrawn w p.d) p.os :=
 Calls.regrown_of (h _ (below_regrown w d os))
theorem RowV.quiet {w : World} {g k : Nat} {vs : List Value} {u : Value} (h : RowV w g vs) (hu : vs[k]? = some u) (d : Nat) (os : Array Obj) : (Go.Sort.grow (redrawn w d) os).cell? ⟨g, k, none⟩ = some u :=
 cell_regrown ((h.cell k).trans hu) d os
end Go.Proofs.Ytkdlfbggddllhaa
namespace Go.Proofs.Ytkdlfbggddllhaa
open Go.RowKit
theorem same_take {x y : List UInt8} {k : Nat} (hx : k < x.length) (hy : k < y.length) (h : x.take k = y.take k) (e : (x[k].toNat : Int) = (y[k].toNat : Int)) : x.take (k + 1) = y.take (k + 1) := by
 have e':x[k]=y[k]:=UInt8.toNat_inj.1 (by omega)
 rw [List.take_succ_eq_append_getElem hx,List.take_succ_eq_append_getElem hy,h,e']
set_option maxHeartbeats 400000 in
theorem ref_same (A1 A2 : Option Addr) (c1 c2 n1 n2 : Nat) (x y : List UInt8) (w : World) (B : Nat) (h1 : Sees w B A1 (Us x)) (h2 : Sees w B A2 (Us y)) (l1 : n1 = x.length) (l2 : n2 = y.length) (m1 : n1 ≤ maxLen) :
 Calls Try.prog 22 #[.slice A1 n1 c1,.slice A2 n2 c2] w fun e w'=>e=.returned (.bool (zax x y))∧∃n,w'=w.drewN n:=by
 unfold maxLen at m1
 by_cases hl:x.length=y.length
 · have L2 := Lib.hid l2
   have L1:=Lib.hid l1
   have HL:=Lib.hid hl
   clear l2 l1
   obtain rfl:n2=n1:=by rw [L2.out,L1.out,HL.out]
   clear hl
   go_enter Try.func22,Try.ntmps22
   go_wp2
   go_loopw [5] (fun i wr=>∃k n:Nat,k≤n2∧i=.int .i64 k∧x.take k=y.take k∧wr=w.drewN n) (fun i _=>n2 - (intOf i).toNat)
   case atStart=>exact ⟨0,0,Nat.zero_le _,rfl,by simp,rfl⟩
   case round =>
    obtain ⟨k,n,hk,rfl,ht,rfl⟩:=hrel
    have HT:=Lib.hid ht
    clear ht
    by_cases hlt:k < n2
    · have hkx : k < x.length := by have := L1.out; omega
      have hky:k < y.length:=by have:=L2.out;omega
      obtain ⟨b1,o1,rfl,hb1,hc1⟩:=h1.at_ (k:=k) (by rw [zam];omega)
      obtain ⟨b2,o2,rfl,hb2,hc2⟩:=h2.at_ (k:=k) (by rw [zam];omega)
      have g1:=(hc1 k (by rw [zam];omega)).trans (Us_get hkx)
      have g2:=(hc2 k (by rw [zam];omega)).trans (Us_get hky)
      clear hc1 hc2
      by_cases he:(x[k].toNat:Int)=(y[k].toNat:Int)
      · have hd : (((x[k].toNat : Int)) != ((y[k].toNat : Int))) = false := by rw [he]; simp
        have HE:=Lib.hid he
        clear he
        go_wp2
        go_quiet (fail)
        go_wp2
        go_roundw
        case rel=>exact ⟨k+1,_,by omega,by go_num,same_take hkx hky HT.out HE.out,rfl⟩
        case measure=>simp [intOf];omega
      · have hd : (((x[k].toNat : Int)) != ((y[k].toNat : Int))) = true := by simpa using he
        have hf:zax x y=false:=zaT (by rintro rfl;exact he rfl)
        clear he
        go_wp2
        go_quiet (fail)
        go_wp2
        go_ret
        exact ⟨by rw [hf];rfl,n+nq,World.drewN_drewN _ _ _⟩
    · have hs : zax x y = true := zbd (by
       have h:=HT.out
       rwa [List.take_of_length_le (by have:=L1.out;omega),List.take_of_length_le (by have:=L2.out;omega)] at h)
      go_wp2
      go_ret
      exact ⟨by rw [hs];rfl,n,rfl⟩
 · have hne : ((n1 : Int) != (n2 : Int)) = true := by rw [bne_iff_ne]; omega
   have hf:zax x y=false:=zaT (by rintro rfl;exact hl rfl)
   clear l1 l2 hl
   go_enter Try.func22,Try.ntmps22
   go_wp2
   go_ret
   exact ⟨by rw [hf];rfl,0,rfl⟩
end Go.Proofs.Ytkdlfbggddllhaa
