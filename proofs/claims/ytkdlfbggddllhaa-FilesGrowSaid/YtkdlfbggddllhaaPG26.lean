/-
  What is proved here: what is read of the file that a place selects, by the program and by the reference.
-/
import Derived.Test.YtkdlfbggddllhaaPG25
import Derived.Test.YtkdlfbggddllhaaPG16
import Derived.Test.YtkdlfbggddllhaaPG14
import Derived.Test.YtkdlfbggddllhaaPG17
import Derived.Laws.AppendOwnNone
set_option linter.unusedVariables false
set_option linter.unusedSimpArgs false
namespace Go.Proofs.Ytkdlfbggddllhaa
open Go.RowKit
set_option maxRecDepth 8000
theorem sl_lo17 (A : Option Addr) (n c k : Nat) (hk : k ≤ n) (hc : n ≤ c) (hA : A = none → c = 0) : ∃ A' c', (∀ w, (Instr.sliceAt 45 (.slice A n c) (some (.int .i64 (k : Int))) none none).run Try.prog w = .ok (.slice A' (n - k) c') w) ∧ n - k ≤ c' ∧ (A' = none → c' = 0) ∧
 ∀(w:World) (p:Nat→Prop) (d:List UInt8),d.length=n→SeesP w p A (Us d)→SeesP w p A' (Us (d.drop k)):=by
 have h2:¬((n:Int) < (k:Int)):=by omega
 have h3:¬((c:Int) < (n:Int)):=by omega
 have h4:(k:Int)≤(n:Int):=by omega
 have h5:(n:Int)≤(c:Int):=by omega
 have hdr:∀(d:List UInt8),d.length=n→k=n→Us (d.drop k)=[]:=fun d hd e=>by rw [List.drop_of_length_le (by omega)];rfl
 rcases A with _ | ⟨b,o,s⟩
 · have h0 : c = 0 := hA rfl
   subst h0
   obtain rfl:n=0:=by omega
   obtain rfl:k=0:=by omega
   exact ⟨none,0,fun w=>by simp [go_sem],Nat.zero_le _,fun _=>rfl,fun w p d hd h=>.inl (hdr d hd rfl)⟩
 · by_cases hkc : c = k
   · subst hkc
     obtain rfl:n=c:=by omega
     refine ⟨some ⟨b,o,s⟩,n - n,fun w=>by simp [go_sem],Nat.le_refl _,(fun h=>by cases h),fun w p d hd h=>.inl (hdr d hd rfl)⟩
   · refine ⟨some ((⟨b, o, s⟩ : Addr).add k), c - k, fun w => by simp [go_sem, h2, h3, h4, h5, hkc], by omega, (fun h => by cases h), fun w p d hd h => ?_⟩
     by_cases hkn:k=n
     · exact .inl (hdr d hd hkn)
     · rcases h with h | ⟨b', o', e, hp, hcc⟩
       · have := congrArg List.length h
         rw [zan] at this
         simp only [List.length_nil] at this
         omega
       · injection e with e
         injection e with e1 e2 e3
         subst e1 e2 e3
         refine .inr ⟨b,o+k,by simp [Addr.add],hp,fun j hj=>?_⟩
         rw [zan,List.length_drop] at hj
         rw [Nat.add_assoc,hcc _ (by rw [zan];omega),Us_drop,List.getElem?_drop]
theorem zao:(Try.prog.info? 29).map (·.size)=some 5:=by kernel_rfl
def RedIs (w:World) (G:Gw) (app file:Int) (s:Sta) (off n:Int) (e:Ending) (w':World):Prop:=∃A c,e=.returned (.tuple #[.slice A (redV G app file s off n).length c,.bool (redB G app file s off n),.int .i64 (redE G app file s off n)])∧((A=none→c=0)∧(redV G app file s off n).length≤c)∧SeesP w' (newB w w') A (Us (redV G app file s off n))∧Below w.heap.size w w'
theorem red_bad {G:Gw} {app file:Int} {s:Sta} {off n:Int} (h:redE G app file s off n≠0):redV G app file s off n=[]∧redB G app file s off n=false:=⟨by unfold redV;rw [if_neg h],by unfold redB;rw [if_neg h]⟩
theorem red_cases (G : Gw) (app file : Int) (s : Sta) (off n : Int) (dl : Nat) (hdl : (selF G app file).d.length = dl) :
 (redE G app file s off n ≠ 0 ∧ redV G app file s off n = [] ∧ redB G app file s off n = false ∧ (((selE G app file != 0) = true ∧ redE G app file s off n = selE G app file) ∨ (selE G app file = 0 ∧ alwB (selF G app file).lv (selF G app file).rt s = false ∧ redE G app file s off n = 19) ∨
  (selE G app file=0∧alwB (selF G app file).lv (selF G app file).rt s=true∧redE G app file s off n=3∧(decide (n < 1)=true∨(decide (n < 1)=false∧decide (4096 < n)=true)∨(decide (n < 1)=false∧decide (4096 < n)=false∧decide (off < 0)=true)∨(decide (n < 1)=false∧decide (4096 < n)=false∧decide (off < 0)=false∧decide ((dl:Int) < off)=true))))) ∨
 (∃k m:Nat,off=(k:Int)∧n=(m:Int)∧k≤dl∧1≤m∧m≤4096∧selE G app file=0∧alwB (selF G app file).lv (selF G app file).rt s=true∧redE G app file s off n=0∧redV G app file s off n=((selF G app file).d.drop k).take m∧redB G app file s off n=decide (dl≤k+m)):=by
 subst hdl
 by_cases h1:selE G app file≠0
 · left
   have e:redE G app file s off n=selE G app file:=by unfold redE;rw [if_pos h1]
   obtain ⟨e1,e2⟩:=red_bad (s:=s) (off:=off) (n:=n) (by rw [e];exact h1)
   exact ⟨by rw [e];exact h1,e1,e2,.inl ⟨by simpa using h1,e⟩⟩
 have h1:selE G app file=0:=Classical.byContradiction h1
 rcases h2:alwB (selF G app file).lv (selF G app file).rt s with _ | _
 · left
   have e:redE G app file s off n=19:=by unfold redE;rw [if_neg (by rw [h1];decide),if_pos h2]
   obtain ⟨e1,e2⟩:=red_bad (s:=s) (off:=off) (n:=n) (by rw [e];decide)
   exact ⟨by rw [e];decide,e1,e2,.inr (.inl ⟨h1,rfl,e⟩)⟩
 by_cases h3:n < 1∨4096 < n∨off < 0∨((selF G app file).d.length:Int) < off
 · left
   have e:redE G app file s off n=3:=by unfold redE;rw [if_neg (by rw [h1];decide),if_neg (by rw [h2];decide),if_pos h3]
   obtain ⟨e1,e2⟩:=red_bad (s:=s) (off:=off) (n:=n) (by rw [e];decide)
   refine ⟨by rw [e];decide,e1,e2,.inr (.inr ⟨h1,rfl,e,?_⟩)⟩
   by_cases g1:n < 1
   · left;simpa using g1
   by_cases g2:4096 < n
   · right;left;exact ⟨by simpa using g1,by simpa using g2⟩
   by_cases g3:off < 0
   · right;right;left;exact ⟨by simpa using g1,by simpa using g2,by simpa using g3⟩
   · right; right; right
     have g4:((selF G app file).d.length:Int) < off:=by omega
     exact ⟨by simpa using g1,by simpa using g2,by simpa using g3,by simpa using g4⟩
 · right
   have e:redE G app file s off n=0:=by unfold redE;rw [if_neg (by rw [h1];decide),if_neg (by rw [h2];decide),if_neg h3]
   obtain ⟨k,rfl⟩ : ∃k:Nat,off=(k:Int):=Int.eq_ofNat_of_zero_le (by omega)
   obtain ⟨m,rfl⟩ : ∃m:Nat,n=(m:Int):=Int.eq_ofNat_of_zero_le (by omega)
   refine ⟨k,m,rfl,rfl,by omega,by omega,by omega,h1,rfl,e,by unfold redV;rw [if_pos e];rfl,?_⟩
   unfold redB
   rw [if_pos e]
   by_cases g:(selF G app file).d.length≤k+m
   · have : ((selF G app file).d.length : Int) ≤ (k : Int) + (m : Int) := by omega
     simp [g,this]
   · have : ¬ ((selF G app file).d.length : Int) ≤ (k : Int) + (m : Int) := by omega
     simp [g,this]
end Go.Proofs.Ytkdlfbggddllhaa
