/-
  What is proved here: plain facts: objects are read back from each of their encodings, whatever form the lengths have (and strictly from those in shortest form).
-/
import Derived.Test.YtnlhbknajdpnbaaGreatDoorF8
import Derived.Test.YtnlhbknajdpnbaaGreatDoorF7
import Derived.Test.YtnlhbknajdpnbaaGreatDoorRows
import Derived.Test.YtnlhbknajdpnbaaGreatDoorF0
import Derived.Test.YtnlhbknajdpnbaaGreatDoorF1
import Derived.Deep.CutRange
import Derived.Laws.AppendOwnNone
import Derived.Deep.RegionLaw
import Derived.Deep.RegionWith
set_option linter.unusedVariables false
set_option linter.unusedSimpArgs false
namespace Go.Proofs.YtnlhbknajdpnbaaGreatDoor
open Go.RowKit
set_option maxRecDepth 8000
def HdOk (st : Bool) (t : Int) (n : Nat) (hd tl : List UInt8) : Prop :=
 (tl=[]∧hd=[UInt8.ofNat n]∧n≤127) ∨
 (tl=[]∧∃m dg,hd=UInt8.ofNat (128+m)::dg∧dg.length=m∧1≤m∧m≤4∧numL_Hdr dg=n∧(st=true→zbp (128+m) n=true)) ∨
 (st=false∧hd=[128]∧tl=[0,0]∧zaE t=true)
def LooseOf (st : Bool) : F → List UInt8 → Prop
 | .nil,b=>b=[]
 | .cons t v k r,b=>∃ck br hd tl,LooseOf st k ck∧LooseOf st r br∧HdOk st t (v.length+ck.length) hd tl∧b=tagL t.toNat++(hd++(v++ck++(tl++br)))
theorem LooseOf.app {st : Bool} {g : F} {bg : List UInt8} (hg : LooseOf st g bg) : ∀ {f : F} {bf : List UInt8}, LooseOf st f bf → LooseOf st (f.app g) (bf ++ bg)
 | .nil,_,h=>by cases h;exact hg
 | .cons t v k r,_,⟨ck,br,hd,tl,h1,h2,h3,e⟩=>⟨ck,br++bg,hd,tl,h1,LooseOf.app hg h2,h3,by rw [e];simp only [List.append_assoc]⟩
theorem zfr {t : Nat} (hv : zaA (t : Int) = true) {f : Nat} (hf : f < 256) (r : List UInt8) :
 hdrZ (tagL t++UInt8.ofNat f::r)=tagN (t:Int)+1∧hdrF (tagL t++UInt8.ofNat f::r)=f∧tagE (tagL t++UInt8.ofNat f::r)=0∧tagV (tagL t++UInt8.ofNat f::r)=t∧(tagL t++UInt8.ofNat f::r).drop (tagN (t:Int)+1)=r:=by
 have ht:=tag_read hv (UInt8.ofNat f::r)
 have hZ:hdrZ (tagL t++UInt8.ofNat f::r)=tagN (t:Int)+1:=by unfold hdrZ;rw [ht.2]
 refine ⟨hZ,?_,ht.1,ht.2,?_⟩
 · unfold hdrF
   rw [hZ,Nat.add_sub_cancel]
   have : (tagL t ++ UInt8.ofNat f :: r).getD (tagN (t : Int)) 0 = UInt8.ofNat f := by
    rw [←zdC]
    simp [List.getD]
   rw [this,zda hf]
 · rw [← zdC, List.drop_append]
   simp [List.drop_eq_nil_of_le]
theorem hdr_def {st : Bool} {t : Nat} {n : Nat} {hd : List UInt8} (hv : zaA (t : Int) = true) (h : HdOk st (t : Int) n hd []) (X : List UInt8) :
 hdrE (tagL t++(hd++X))=0∧hdrF (tagL t++(hd++X))≠128∧hdrN (tagL t++(hd++X))=n∧(tagL t++(hd++X)).drop (hdrS (tagL t++(hd++X)))=X∧tagV (tagL t++(hd++X))=t∧(st=true→zbp (hdrF (tagL t++(hd++X))) n=true):=by
 rcases h with ⟨_,rfl,hn⟩ | ⟨_,m,dg,rfl,hm,h1,h4,hN,hS⟩ | ⟨_,_,h,_⟩
 · obtain ⟨e1, e2, e3, e4, e5⟩ := hdr_short hv hn X
   obtain ⟨_,_,_,_,hd⟩:=zfr hv (f:=n) (by omega) X
   rw [List.singleton_append]
   refine ⟨e1,by omega,e3,by rw [e4];exact hd,e5,fun _=>?_⟩
   rw [e2]
   unfold zbp
   rw [lb_0 hn,if_pos rfl,decide_eq_true hn]
 · obtain ⟨z, f, te, tv, hd⟩ := zfr hv (f := 128 + m) (by omega) (dg ++ X)
   rw [List.cons_append]
   have hl : (tagL t ++ UInt8.ofNat (128 + m) :: (dg ++ X)).length = tagN (t : Int) + 1 + (m + X.length) := by
    rw [List.length_append,zdC,List.length_cons,List.length_append,hm];omega
   refine ⟨?_,by omega,?_,?_,tv,fun h=>by rw [f];exact hS h⟩
   · unfold hdrE
     rw [if_neg (by omega),z,f,if_neg (by omega),if_neg (by omega),if_neg (by omega),if_neg (by omega)]
   · unfold hdrN
     rw [f,if_neg (by omega),z,hd,show 128+m - 128=m by omega,←hm,List.take_left,hN]
   · unfold hdrS
     rw [f,if_neg (by omega),z,show 128+m - 128=m by omega,←List.drop_drop,hd,←hm,List.drop_left]
 · cases h
theorem hdr_ind {t : Nat} (hv : zaA (t : Int) = true) (X : List UInt8) :
 hdrE (tagL t++([128]++X))=0∧hdrF (tagL t++([128]++X))=128∧(tagL t++([128]++X)).drop (hdrS (tagL t++([128]++X)))=X∧tagV (tagL t++([128]++X))=t:=by
 obtain ⟨z,f,te,tv,hd⟩:=zfr hv (f:=128) (by omega) X
 have e:(UInt8.ofNat 128)=128:=rfl
 rw [e] at z f te tv hd
 rw [List.singleton_append]
 have hl : (tagL t ++ 128 :: X).length = tagN (t : Int) + 1 + X.length := by
  rw [List.length_append,zdC,List.length_cons];omega
 refine ⟨?_,f,?_,tv⟩
 · unfold hdrE
   rw [if_neg (by omega),z,f,if_neg (by omega),if_neg (by omega),if_neg (by omega),if_neg (by omega)]
 · unfold hdrS
   rw [f,if_neg (by omega),z]
   exact hd
theorem adm_fine {st : Bool} {t f n c : Nat} {d : Int} (h1 : f = 128 → zaE (t : Int) = true ∧ st = false) (h2 : st = true → zbp f n = true) (hd : d ≤ 8) (hc : c + 1 ≤ 256) : admE st t f n d c = 0 := by
 unfold admE
 rw [if_neg ?_,if_neg (by omega),if_neg (by omega)]
 rintro (⟨h,h'⟩ | ⟨h,h'⟩)
 · rw [(h1 h).1] at h';cases h'
 · rw [h2 h] at h';cases h'
def F.fit : F → Nat → Prop
 | .nil,_=>True
 | .cons t v k r,m=>1≤m∧zaA t=true∧(zaE t=true→v=[])∧(zaE t=false→k=.nil)∧v.length≤4096∧k.fit (m - 1)∧r.fit m
theorem F.fit_ok : ∀ {f : F} {m : Nat}, f.fit m → f.ok
 | .nil,_,_=>trivial
 | .cons t v k r, m, ⟨h1, h2, h3, h4, h5, h7, h8⟩ => by
   have:=zba h2
   exact ⟨by omega,by omega,F.fit_ok h7,F.fit_ok h8⟩
def BackL (st:Bool) (f:F):Prop:=∀(K m c:Nat) (b:List UInt8),f.fit K→K≤8→LooseOf st f b→b.length≤m→c+f.size≤256→zbH (pObj st K) m c b=.ok (f,c+f.size)
def BackM (st:Bool) (f:F):Prop:=∀(K m c:Nat) (b rest:List UInt8),f.fit K→K≤8→LooseOf st f b→(b++([0,0]++rest)).length≤m→c+f.size≤256→zbF (pObj st K) m c (b++([0,0]++rest))=.ok (f,rest,c+f.size)
theorem back_obj {st : Bool} {t : Int} {v : List UInt8} {k : F} (hL : BackL st k) (hM : BackM st k) {K c : Nat} {ck hd tl X : List UInt8} (hg : (F.cons t v k .nil).fit K) (hK : K ≤ 8) (hk : LooseOf st k ck) (hh : HdOk st t (v.length + ck.length) hd tl) (hc : c + 1 + k.size ≤ 256) :
 pObj st K c (tagL t.toNat++(hd++(v++ck++(tl++X))))=.ok (t,v,k,X,c+1+k.size):=by
 obtain ⟨g1,g2,g3,g4,g5,g7,_⟩:=hg
 have hr:=zba g2
 obtain ⟨T,rfl⟩:=Int.eq_ofNat_of_zero_le (show 0≤t by omega)
 obtain ⟨K',rfl⟩ : ∃K',K=K'+1:=⟨K - 1,by omega⟩
 simp only [Nat.add_sub_cancel] at g7
 simp only [Int.toNat_natCast]
 have hd8:(8:Int) - (K':Int)≤8:=by omega
 have hh2:=hh
 rcases hh with ⟨rfl,_,_⟩ | ⟨rfl,_⟩ | ⟨h1,h2,h3,h4⟩
 iterate 2
  obtain ⟨e1,e2,e3,e4,e5,e6⟩:=hdr_def g2 hh2 (v++ck++([]++X))
  have hA:=adm_fine (st:=st) (t:=T) (f:=hdrF (tagL T++(hd++(v++ck++([]++X))))) (n:=v.length+ck.length) (c:=c) (fun h=>absurd h e2) e6 hd8 (by omega)
  simp only [pObj]
  rw [if_neg (by omega),e3,e5,if_neg (by omega),if_neg e2,e4,if_neg (by simp only [List.length_append,List.nil_append];omega)]
  have et:(v++ck++([]++X)).take (v.length+ck.length)=v++ck:=by rw [←List.length_append,List.take_left]
  have ed:(v++ck++([]++X)).drop (v.length+ck.length)=X:=by rw [←List.length_append,List.drop_left];rfl
  rw [et,ed]
  cases hcb:zaE (T:Int)
  · have hkn := g4 hcb
    subst hkn
    cases hk
    rw [if_pos rfl,List.append_nil]
    rfl
  · have hvn := g3 hcb
    subst hvn
    rw [if_neg (by decide)]
    simp only [List.nil_append,List.length_nil,Nat.zero_add]
    rw [hL K' ck.length (c+1) ck g7 (by omega) hk (Nat.le_refl _) (by omega)]
 · subst h1 h2 h3
   have hvn:=g3 h4
   subst hvn
   obtain ⟨e1,e2,e4,e5⟩:=hdr_ind g2 ([]++ck++([0,0]++X))
   have hA:=adm_fine (st:=false) (t:=T) (f:=128) (n:=hdrN (tagL T++([128]++([]++ck++([0,0]++X))))) (c:=c) (fun _=>⟨h4,rfl⟩) (fun h=>by cases h) hd8 (by omega)
   simp only [pObj]
   rw [if_neg (by omega),e5,e2,if_neg (by omega),if_pos rfl,e4]
   simp only [List.nil_append]
   rw [hM K' _ (c+1) ck X g7 (by omega) hk (Nat.le_refl _) (by omega)]
theorem tag_nonzero {t : Nat} (hv : zaA (t : Int) = true) (r : List UInt8) : (tagL t ++ r).take 2 ≠ [0, 0] := by
 have hr:=zba hv
 intro h
 unfold tagL at h
 split at h
 · rename_i h2
   simp only [List.cons_append,List.nil_append,List.take_succ_cons,List.cons.injEq] at h
   have:=congrArg UInt8.toNat h.1
   rw [zew] at this
   have e:(0:UInt8).toNat=0:=rfl
   omega
 · rename_i h2
   simp only [List.cons_append,List.nil_append,List.take_succ_cons,List.cons.injEq] at h
   have:=congrArg UInt8.toNat h.1
   rw [zew] at this
   have e:(0:UInt8).toNat=0:=rfl
   omega
theorem tagL_pos (t:Nat):1≤(tagL t).length:=by unfold tagL;split <;> simp
theorem hd_pos {st : Bool} {t : Int} {n : Nat} {hd tl : List UInt8} (h : HdOk st t n hd tl) : 1 ≤ hd.length := by
 rcases h with ⟨_,rfl,_⟩ | ⟨_,m,dg,rfl,_⟩ | ⟨_,rfl,_,_⟩ <;> simp
theorem back_all (st : Bool) : ∀ f : F, BackL st f ∧ BackM st f
 | .nil => by
   refine ⟨fun K m c b _ _ h _ _=>?_,fun K m c b rest _ _ h hm _=>?_⟩
   · cases h;rw [zfw];rfl
   · cases h
     simp only [List.nil_append,List.length_append,List.length_cons,List.length_nil] at hm
     obtain ⟨m',rfl⟩ : ∃m',m=m'+1:=⟨m - 1,by omega⟩
     rw [List.nil_append,zft (by simp) (by rfl)]
     rfl
 | .cons t v k r => by
   obtain ⟨kL,kM⟩:=back_all st k
   obtain ⟨rL,rM⟩:=back_all st r
   refine ⟨fun K m c b hg hK h hm hc=>?_,fun K m c b rest hg hK h hm hc=>?_⟩
   · obtain ⟨ck, br, hd, tl, hk, hr, hh, rfl⟩ := h
     obtain ⟨g1,g2,g3,g4,g5,g7,g8⟩:=hg
     simp only [F.size] at hc
     have ho:=back_obj kL kM (X:=br) (c:=c) (K:=K) ⟨g1,g2,g3,g4,g5,g7,trivial⟩ hK hk hh (by omega)
     have hp1:=tagL_pos t.toNat
     have hp2:=hd_pos hh
     simp only [List.length_append] at hm
     obtain ⟨m',rfl⟩ : ∃m',m=m'+1:=⟨m - 1,by omega⟩
     rw [loopL_ok (by intro e;have:=congrArg List.length e;simp only [List.length_append,List.length_nil] at this;omega) ho,rL K m' (c+1+k.size) br g8 hK hr (by omega) (by omega)]
     simp only [joinL,F.app,F.size,Except.ok.injEq,Prod.mk.injEq,true_and]
     omega
   · obtain ⟨ck, br, hd, tl, hk, hr, hh, rfl⟩ := h
     obtain ⟨g1,g2,g3,g4,g5,g7,g8⟩:=hg
     simp only [F.size] at hc
     have hvr:=zba g2
     have e:tagL t.toNat++(hd++(v++ck++(tl++br)))++([0,0]++rest)=tagL t.toNat++(hd++(v++ck++(tl++(br++([0,0]++rest))))):=by simp only [List.append_assoc]
     rw [e] at hm ⊢
     have ho:=back_obj kL kM (X:=br++([0,0]++rest)) (c:=c) (K:=K) ⟨g1,g2,g3,g4,g5,g7,trivial⟩ hK hk hh (by omega)
     have hp1:=tagL_pos t.toNat
     have hp2:=hd_pos hh
     have hm2:=hm
     simp only [List.length_append,List.length_cons,List.length_nil] at hm2
     obtain ⟨m',rfl⟩ : ∃m',m=m'+1:=⟨m - 1,by omega⟩
     obtain ⟨T,rfl⟩:=Int.eq_ofNat_of_zero_le (show 0≤t by omega)
     rw [loopM_ok (by simp only [List.length_append,List.length_cons,List.length_nil];omega) (tag_nonzero (by simpa using g2) _) ho,rM K m' (c+1+k.size) br rest g8 hK hr (by simp only [List.length_append,List.length_cons,List.length_nil];omega) (by omega)]
     simp only [zfe,F.app,F.size,Except.ok.injEq,Prod.mk.injEq,true_and]
     omega
theorem parse_fit {st : Bool} {f : F} {b : List UInt8} (hg : f.fit 8) (h : LooseOf st f b) (hl : b.length ≤ 4096) (hs : f.size ≤ 256) : zcu st b = .ok (f, f.size) := by
 unfold zcu
 rw [if_neg (by omega),(back_all st f).1 8 b.length 0 b hg (Nat.le_refl _) h (Nat.le_refl _) (by omega),Nat.zero_add]
theorem numL_len {n : Nat} (h : n ≤ 65535) (h2 : 127 < n) : numL_Hdr (lenD n (lb n) (lb n)) = n ∧ 1 ≤ lb n ∧ lb n ≤ 4 := by
 by_cases h3:n < 256
 · rw [lb_1 h2 h3]
   refine ⟨?_,by decide,by decide⟩
   simp [lenD,numL_Hdr]
   omega
 · rw [lb_2 (by omega) (by omega)]
   refine ⟨?_,by decide,by decide⟩
   simp [lenD,numL_Hdr,List.range_succ]
   omega
theorem hd_short {st : Bool} (t : Int) {n : Nat} (h : n ≤ 65535) : HdOk st t n (lenL n) [] := by
 by_cases h2:n≤127
 · left;unfold lenL;rw [if_pos h2];exact ⟨rfl,rfl,h2⟩
 · right; left
   have hn:=numL_len h (by omega)
   unfold lenL;rw [if_neg h2]
   refine ⟨rfl,lb n,_,rfl,zgd _ _ _,hn.2.1,hn.2.2,hn.1,fun _=>?_⟩
   unfold zbp
   rw [if_neg (by omega),decide_eq_true rfl]
theorem zgc (st : Bool) : ∀ (f : F), encN f ≤ 65535 → LooseOf st f (enc f)
 | .nil,_=>rfl
 | .cons t v k r, h => by
   simp only [encN] at h
   refine ⟨enc k,enc r,lenL (v.length+encN k),[],zgc st k (by omega),zgc st r (by omega),?_,?_⟩
   · rw [zbu];exact hd_short t (by omega)
   · simp only [enc,List.append_assoc,List.nil_append]
end Go.Proofs.YtnlhbknajdpnbaaGreatDoor
namespace Go.Proofs.YtnlhbknajdpnbaaGreatDoor
open Go.RowKit
set_option maxRecDepth 8000
theorem valid_in {t : Int} (h1 : 1 ≤ t) (h2 : t ≤ 255) : zaA t = (t % 32 != 31) := by
 unfold zaA
 rw [if_pos (by omega),decide_eq_true (show 0 < t by omega),Bool.true_and]
 by_cases h3:t % 32=31 <;> simp [h3]
theorem valid_hi {t : Int} (h1 : 256 ≤ t) (h2 : t ≤ 65535) : zaA t = (decide (t / 256 % 32 = 31) && decide (1 ≤ t % 256) && decide (t % 256 ≤ 127)) := by
 unfold zaA
 rw [if_neg (by omega),decide_eq_true (show t / 256≤255 by omega),Bool.true_and]
theorem valid_out {t : Int} (h : ¬ (1 ≤ t ∧ t ≤ 255)) (h2 : ¬ (256 ≤ t ∧ t ≤ 65535)) : zaA t = false := by
 cases hv:zaA t with
 | false=>rfl
 | true =>
   have:=zba hv
   omega
theorem zdl (t : Int) (lo : -9223372036854775808 ≤ t) (hi : t ≤ 9223372036854775807) (w : World) :
 Calls Tryz.prog 61 #[.int .i64 t] w fun e w'=>e=.returned (.bool (zaA t))∧w'=w:=by
 by_cases h1:1≤t
 · have d1 : decide (1 ≤ t) = true := by simpa using h1
   by_cases h2:t≤255
   · have d2 : decide (t ≤ 255) = true := by simpa using h2
     rw [valid_in h1 h2]
     clear h2
     go_enter Tryz.func61,Tryz.ntmps61
     go_wp2
     go_ret
     exact ⟨rfl,rfl⟩
   · have d2 : decide (t ≤ 255) = false := by simpa using h2
     have d3:decide (256≤t)=true:=by simp;omega
     by_cases h3:t≤65535
     · have d4 : decide (t ≤ 65535) = true := by simpa using h3
       have hv:=valid_hi (t:=t) (by omega) h3
       by_cases h4:t / 256 % 32=31
       · have d5 : (t / 256 % 32 == 31) = true := by simpa using h4
         by_cases h5:1≤t % 256
         · have d6 : decide (1 ≤ t % 256) = true := by simpa using h5
           rw [hv,decide_eq_true h4,d6,Bool.true_and,Bool.true_and]
           clear hv h4 h5 h2 h3
           go_enter Tryz.func61,Tryz.ntmps61
           go_wp2
           go_ret
           exact ⟨rfl,rfl⟩
         · have d6 : decide (1 ≤ t % 256) = false := by simpa using h5
           rw [hv,decide_eq_true h4,d6,Bool.and_false,Bool.false_and]
           clear hv h4 h5 h2 h3
           go_enter Tryz.func61,Tryz.ntmps61
           go_wp2
           go_ret
           exact ⟨rfl,rfl⟩
       · have d5 : (t / 256 % 32 == 31) = false := by simpa using h4
         rw [hv,decide_eq_false h4,Bool.false_and,Bool.false_and]
         clear hv h4 h2 h3
         go_enter Tryz.func61,Tryz.ntmps61
         go_wp2
         go_ret
         exact ⟨rfl,rfl⟩
     · have d4 : decide (t ≤ 65535) = false := by simpa using h3
       rw [valid_out (by omega) (by omega)]
       clear h2 h3
       go_enter Tryz.func61,Tryz.ntmps61
       go_wp2
       go_ret
       exact ⟨rfl,rfl⟩
 · have d1 : decide (1 ≤ t) = false := by simpa using h1
   have d3:decide (256≤t)=false:=by simp;omega
   rw [valid_out (by omega) (by omega)]
   clear h1
   go_enter Tryz.func61,Tryz.ntmps61
   go_wp2
   go_ret
   exact ⟨rfl,rfl⟩
theorem zcV (t : Int) (lo : -9223372036854775808 ≤ t) (hi : t ≤ 9223372036854775807) (w : World) :
 Calls Tryz.prog 29 #[.int .i64 t] w fun e w'=>e=.returned (.bool (zaE t))∧w'=w:=by
 cases hv:zaA t
 · have hc : zaE t = false := by unfold zaE; rw [hv, Bool.false_and]
   have hw:∀u,Calls Tryz.prog 61 #[.int .i64 t] u fun e w'=>e=.returned (.bool false)∧w'=u:=fun u=>by have:=zdl t lo hi u;rwa [hv] at this
   have HW:=Lib.hid hw
   rw [hc]
   clear hc hw
   go_enter Tryz.func29,Tryz.ntmps29
   go_wp2_with (go_at_call 61;refine (HW.out _).mono ?_;rintro e w' ⟨rfl,rfl⟩)
   go_ret
   exact ⟨rfl,rfl⟩
 · have hr := zba hv
   have hw:∀u,Calls Tryz.prog 61 #[.int .i64 t] u fun e w'=>e=.returned (.bool true)∧w'=u:=fun u=>by have:=zdl t lo hi u;rwa [hv] at this
   have HW:=Lib.hid hw
   clear hw
   by_cases h:255 < t
   · have d : decide (255 < t) = true := by simpa using h
     have hc : zaE t = (t / 256 / 32 % 2 == 1) := by
      unfold zaE zfO;rw [hv,Bool.true_and,if_neg (by omega)]
      by_cases h3:t / 256 / 32 % 2=1 <;> simp [h3]
     rw [hc]
     clear hc h
     go_enter Tryz.func29,Tryz.ntmps29
     go_wp2_with (go_at_call 61;refine (HW.out _).mono ?_;rintro e w' ⟨rfl,rfl⟩)
     go_ret
     exact ⟨rfl,rfl⟩
   · have d : decide (255 < t) = false := by simpa using h
     have hc : zaE t = (t / 32 % 2 == 1) := by
      unfold zaE zfO;rw [hv,Bool.true_and,if_pos (by omega)]
      by_cases h3:t / 32 % 2=1 <;> simp [h3]
     rw [hc]
     clear hc h
     go_enter Tryz.func29,Tryz.ntmps29
     go_wp2_with (go_at_call 61;refine (HW.out _).mono ?_;rintro e w' ⟨rfl,rfl⟩)
     go_ret
     exact ⟨rfl,rfl⟩
end Go.Proofs.YtnlhbknajdpnbaaGreatDoor
namespace Go.Proofs.YtnlhbknajdpnbaaGreatDoor
open Go.RowKit
def St2 (w:World) (D:Nat) (l:List UInt8) (v:Value) (wX:World):Prop:=wX.ownsRow w.heap.size 5 1 v l.length (Us l)∧w.grownBy wX (some D)∧DiceOk wX D
theorem zcX {w:World} {base:Nat} {e:TypeId} {s:Nat} {v:Value} {n:Nat} {xs:List Value} (h:w.ownsRow base e s v n xs):∀g,v.ownBlock=some g→base≤g:=fun g e=>(h.lt g e).1
theorem St2.app {w wX w2 : World} {D : Nat} {l xs : List UInt8} {v v2 : Value} {o : Obj} {n : Nat} {news : List Value} (h : St2 w D l v wX) (hDw : D < w.heap.size) (hn : n = xs.length) (he : news = Us xs) (ho : w2.ownsRow w.heap.size 5 1 v2 (l.length + n) (Us l ++ news)) (hg : (wX.alloc o).grownBy w2 v.ownBlock) : St2 w D (l ++ xs) v2 w2 := by
 subst hn he
 refine ⟨by rw [List.length_append,zaP];exact ho,zaF (zae h.2.1 (zaB wX o (some D))) hg (zcX h.1),?_⟩
 exact (h.2.2.below ((Below.refl _ _).alloc (Nat.le_refl _) o)).grown hg fun g e=>by have:=zcX h.1 g e;omega
theorem St2.src {w wX w2 : World} {D : Nat} {l xs : List UInt8} {v v2 : Value} (h : St2 w D l v wX) (hDw : D < w.heap.size) (ho : w2.ownsRow w.heap.size 5 1 v2 (l.length + xs.length) (Us l ++ Us xs)) (hg : wX.grownBy w2 v.ownBlock) : St2 w D (l ++ xs) v2 w2 :=
 ⟨by rw [List.length_append,zaP];exact ho,zaF h.2.1 hg (zcX h.1),h.2.2.grown hg fun g e=>by have:=zcX h.1 g e;omega⟩
theorem St2.far {w wX w2 : World} {D : Nat} {l : List UInt8} {v : Value} (h : St2 w D l v wX) (hDw : D < w.heap.size) (hg : wX.grownBy w2 (some D)) (hd : DiceOk w2 D) : St2 w D l v w2 := by
 refine ⟨zbm h.1 hg ?_,zae h.2.1 hg,hd⟩
 intro e
 have:=zcX h.1 D e
 omega
def Con (wX:World) (v:Value) (A:Option Addr) (c:Nat) (cb:List UInt8):Prop:=SeesP wX (fun b=>b < wX.heap.size∧v.ownBlock≠some b) A (Us cb)∧(A=none→c=0)
theorem Con.grown {wX w2 : World} {D : Nat} {v : Value} {A : Option Addr} {cb : List UInt8} (h : SeesP wX (fun b => b < wX.heap.size ∧ v.ownBlock ≠ some b ∧ b ≠ D) A (Us cb)) (hg : wX.grownBy w2 (some D)) : SeesP w2 (fun b => b < w2.heap.size ∧ v.ownBlock ≠ some b ∧ b ≠ D) A (Us cb) :=
 (h.keep fun q hq=>zau hg hq.1 hq.2.2).imp fun b hb=>⟨Nat.lt_of_lt_of_le hb.1 hg.size,hb.2⟩
theorem zcH {wX w2 : World} {v : Value} {A : Option Addr} {cb : List UInt8} {o : Obj} (h : SeesP wX (fun b => b < wX.heap.size ∧ v.ownBlock ≠ some b) A (Us cb)) (hg : (wX.alloc o).grownBy w2 v.ownBlock) : ∀ ad, A = some ad → ∀ j u, (Us cb)[j]? = some u → w2.cell? (ad.add j) = some u :=
 SeesP.src (p:=fun b=>b < wX.heap.size∧v.ownBlock≠some b) (h.keep fun q hq=>(World.cell?_of_block (hg.block q.block (by simp;omega) (fun e=>hq.2 e.symm))).trans (World.cell?_alloc_lt wX o q hq.1))
theorem t1 (t:Nat):#[Value.int .u8 ((t:Int) % 256)].toList=Us [UInt8.ofNat t]:=by simp [Us,U]
theorem h83 (n:Nat):#[Value.int .u8 131,.int .u8 0,.int .u8 ((n:Int) / 256 % 256),.int .u8 ((n:Int) % 256)].toList=Us [131,0,UInt8.ofNat (n / 256),UInt8.ofNat n]:=by simp [Us,U]
theorem h84 (n:Nat):#[Value.int .u8 132,.int .u8 0,.int .u8 0,.int .u8 ((n:Int) / 256 % 256),.int .u8 ((n:Int) % 256)].toList=Us [132,0,0,UInt8.ofNat (n / 256),UInt8.ofNat n]:=by simp [Us,U]
theorem h82 (n:Nat):#[Value.int .u8 130,.int .u8 ((n:Int) / 256 % 256),.int .u8 ((n:Int) % 256)].toList=Us [130,UInt8.ofNat (n / 256),UInt8.ofNat n]:=by simp [Us,U]
theorem h81 {n:Nat} (h:n < 256):#[Value.int .u8 129,.int .u8 (n:Int)].toList=Us [129,UInt8.ofNat n]:=by simp [Us,U];omega
theorem h00 {n:Nat} (h:n < 256):#[Value.int .u8 (n:Int)].toList=Us [UInt8.ofNat n]:=by simp [Us,U];omega
theorem o83 {t : Int} {n : Nat} (h : n ≤ 65535) : HdOk false t n [131, 0, UInt8.ofNat (n / 256), UInt8.ofNat n] [] :=
 .inr (.inl ⟨rfl,3,[0,UInt8.ofNat (n / 256),UInt8.ofNat n],rfl,rfl,by decide,by decide,by simp [numL_Hdr];omega,fun h=>by cases h⟩)
theorem o84 {t : Int} {n : Nat} (h : n ≤ 65535) : HdOk false t n [132, 0, 0, UInt8.ofNat (n / 256), UInt8.ofNat n] [] :=
 .inr (.inl ⟨rfl,4,[0,0,UInt8.ofNat (n / 256),UInt8.ofNat n],rfl,rfl,by decide,by decide,by simp [numL_Hdr];omega,fun h=>by cases h⟩)
theorem o82 {t : Int} {n : Nat} (h : n ≤ 65535) : HdOk false t n [130, UInt8.ofNat (n / 256), UInt8.ofNat n] [] :=
 .inr (.inl ⟨rfl,2,[UInt8.ofNat (n / 256),UInt8.ofNat n],rfl,rfl,by decide,by decide,by simp [numL_Hdr];omega,fun h=>by cases h⟩)
theorem o81 {t : Int} {n : Nat} (h : n ≤ 255) : HdOk false t n [129, UInt8.ofNat n] [] :=
 .inr (.inl ⟨rfl,1,[UInt8.ofNat n],rfl,rfl,by decide,by decide,by simp [numL_Hdr];omega,fun h=>by cases h⟩)
theorem o00 {t:Int} {n:Nat} (h:n≤127):HdOk false t n [UInt8.ofNat n] []:=.inl ⟨rfl,rfl,h⟩
theorem o80 {t:Int} {n:Nat} (h:zaE t=true):HdOk false t n [128] [0,0]:=.inr (.inr ⟨rfl,rfl,rfl,h⟩)
theorem zbi {l:List Value} {xs:List UInt8} (h:l=Us xs):∀u∈l,u.oneCell'=true:=by rw [h];exact zcE xs
def LRel (w : World) (D : Nat) (p : Nat → Prop) (cs : List Value) (f : F) (v : Value) (j : Nat) (g : F) (l : List UInt8) (wr : World) : Prop :=
 St2 w D l v wr∧HoldsP w p g (cs.drop (3*j))∧∃df:F,df.app g=f∧(l.length≤4096→LooseOf false df l)∧l.length≤df.size*400∧df.size+g.size=f.size
theorem LRel.step {w w2 : World} {D : Nat} {p : Nat → Prop} {cs : List Value} {f : F} {v2 : Value} {j : Nat} {t : Int} {v ck : List UInt8} {kk r : F} {l hd tl L : List UInt8}
 (hh:HoldsP w p r (cs.drop (3*(j+1)))) (hx:∃df:F,df.app (.cons t v kk r)=f∧(l.length≤4096→LooseOf false df l)∧l.length≤df.size*400∧df.size+(F.cons t v kk r).size=f.size)
 (hL:L=l++tagL t.toNat++hd++(v++ck)++tl) (hst:St2 w D L v2 w2) (hck:ck.length≤4096→LooseOf false kk ck) (hcl:ck.length≤kk.size*400) (hvl:v.length≤300) (hhl:hd.length+tl.length≤5)
 (hok:v.length+ck.length≤4096→HdOk false t (v.length+ck.length) hd tl):LRel w D p cs f v2 (j+1) r L w2:=by
 obtain ⟨df,d1,d2,d3,d4⟩:=hx
 have hlen:L.length=l.length+(tagL t.toNat).length+hd.length+(v.length+ck.length)+tl.length:=by rw [hL];simp only [List.length_append]
 have hT:(tagL t.toNat).length≤2:=by unfold tagL;split <;> simp
 refine ⟨hst,hh,df.app (.cons t v kk .nil),by rw [F.app_assoc];exact d1,fun h=>?_,?_,?_⟩
 · have h1 : LooseOf false (.cons t v kk .nil) (tagL t.toNat ++ (hd ++ (v ++ ck ++ (tl ++ [])))) := ⟨ck, [], hd, tl, hck (by omega), rfl, hok (by omega), rfl⟩
   have h2:=LooseOf.app h1 (d2 (by omega))
   rw [hL]
   simp only [List.append_assoc,List.append_nil] at h2 ⊢
   exact h2
 · rw [F.size_app];simp only [F.size];omega
 · rw [F.size_app];simp only [F.size] at d4 ⊢; omega
theorem zbe {P : Program} {w : World} {ops : Array Oper} {rest : List Oper} {o : Oper} {a : Act} {Q : Exit → Act → World → Prop} (hgd : o.guard = none) (s x : Operand) (t : TypeId)
 (ho:o.op=.call { callee:=.builtin .append,args:=#[s,x],argTypes:=#[t,t] })
 (base:Nat) (e:TypeId) (i:TypeInfo) (z:Value) (ht:P.underlying t=some (.slice e)) (hi:P.info? e=some i) (hz:i.zero=some z)
 (hsize:i.size=1) (hby:i.bytes=1) (hzs:z.cells.size=1)
 (v:Value) (n:Nat) (xs:List Value) (hs:a.eval s=v) (hown:w.ownsRow base e 1 v n xs)
 (A:Option Addr) (c:Nat) (cb:List UInt8) (hx:a.eval x=.slice A cb.length c) (hn:A=none→c=0) (hcc:A=none→cb=[]) (hc:∀ad,A=some ad→∀j u,(Us cb)[j]? = some u→w.cell? (ad.add j)=some u)
 (h63:n+cb.length≤maxLen) (hbytes:n+cb.length≤140737488355328) (hbase:base≤w.heap.size)
 (h:∀v' w',w'.ownsRow base e 1 v' (n+cb.length) (xs++Us cb)→w.grownBy w' v.ownBlock→wpList P ops Q rest (a.put o.dst v') w'):wpList P ops Q (o::rest) a w:=by
 cases A with
 | none =>
   have h1:=hcc rfl
   have h2:=hn rfl
   subst h1 h2
   exact wpList_append_own_none hgd s x t ho base e i 1 ht hi v n xs hs hown hx (h v w (by simpa [Us] using hown) (World.grownBy.refl _ _))
 | some ad =>
   exact wpList_append_own w hgd s x t ho base e i z 1 1 ht hi hz hsize hby hzs (by decide) v n xs hs hown ad cb.length c (Us cb) hx (by rw [zat];omega) (hc ad rfl) (zcE _) h63 (by omega) hbase fun v' w' h1 h2 _=>h v' w' h1 h2
theorem LRel.step2 {w w2 : World} {D : Nat} {p : Nat → Prop} {cs : List Value} {f : F} {v2 : Value} {j T : Nat} {v ck cb : List UInt8} {kk r : F} {l L2 hd tl L : List UInt8}
 (hh:HoldsP w p r (cs.drop (3*(j+1)))) (hx:∃df:F,df.app (.cons (T:Int) v kk r)=f∧(l.length≤4096→LooseOf false df l)∧l.length≤df.size*400∧df.size+(F.cons (T:Int) v kk r).size=f.size)
 (h2:L2=l++tagL T) (he:cb=v++ck) (hL:L=L2++hd++cb++tl) (hst:St2 w D L v2 w2) (hck:ck.length≤4096→LooseOf false kk ck) (hcl:ck.length≤kk.size*400) (hvl:v.length≤300) (hhl:hd.length+tl.length≤5)
 (hok:cb.length≤4096→HdOk false (T:Int) cb.length hd tl):LRel w D p cs f v2 (j+1) r L w2:=by
 subst he h2
 refine LRel.step hh hx (hd:=hd) (tl:=tl) ?_ hst hck hcl hvl hhl (fun h=>?_)
 · rw [hL,Int.toNat_natCast]
 · have := hok (by rw [List.length_append]; exact h)
   rwa [List.length_append] at this
end Go.Proofs.YtnlhbknajdpnbaaGreatDoor
namespace Go.Proofs.YtnlhbknajdpnbaaGreatDoor
open Go.RowKit
def Blk (w:World) (g cap:Nat) (l:List UInt8):Prop:=∃cur:Array Value,w.heap[g]? = some (.cells cur 5 (0,0))∧cur.size=cap∧l.length≤cap∧cur.toList.take l.length=Us l
theorem Blk.lt {w : World} {g cap : Nat} {l : List UInt8} (h : Blk w g cap l) : g < w.heap.size := by
 obtain ⟨cur,h1,_⟩:=h
 exact lt_of_block h1
theorem Blk.far {w w2 : World} {g cap D : Nat} {l : List UInt8} (h : Blk w g cap l) (hg : w.grownBy w2 (some D)) (hne : g ≠ D) : Blk w2 g cap l := by
 obtain ⟨cur,h1,h2⟩:=h
 exact ⟨cur,(hg.block g (lt_of_block h1) (by intro e;injection e with e;exact hne e)).trans h1,h2⟩
theorem Blk.cell {w : World} {g cap : Nat} {l : List UInt8} (h : Blk w g cap l) {k : Nat} (hk : k < l.length) : w.cell? ⟨g, k, none⟩ = some (U l[k]) := by
 obtain ⟨cur,h1,h2,h3,h4⟩:=h
 rw [cell_of_row w g k cur _ (0,0) h1,←Array.getElem?_toList]
 have:=congrArg (·[k]?) h4
 simp only [List.getElem?_take,if_pos hk] at this
 rw [this]
 simp [Us,hk]
theorem Blk.frozen {w : World} {g cap : Nat} {l : List UInt8} (h : Blk w g cap l) (k : Nat) : w.frozen? ⟨g, k, none⟩ = false := by
 obtain ⟨cur,h1,_⟩:=h
 exact frozen_of_row w g k cur _ h1
theorem Blk.set {w : World} {g cap : Nat} {l : List UInt8} (h : Blk w g cap l) (k : Nat) (x : UInt8) : Blk (w.setCell ⟨g, k, none⟩ (U x)) g cap (l.set k x) := by
 obtain ⟨cur,h1,h2,h3,h4⟩:=h
 refine ⟨_,zai (i:=k) h1 (U x),by simpa using h2,by simpa using h3,?_⟩
 rw [List.length_set,Array.toList_setIfInBounds,List.take_set,h4]
 simp [Us,List.map_set]
theorem Blk.sees {w w2 : World} {g cap : Nat} {l : List UInt8} (h : Blk w2 g cap l) (hg : w.heap.size ≤ g) : SeesP w2 (newB w w2) (some ⟨g, 0, none⟩) (Us l) := by
 refine .inr ⟨g,0,rfl,⟨hg,h.lt⟩,fun i hi=>?_⟩
 rw [zat] at hi
 rw [Nat.zero_add,h.cell hi]
 simp [Us,hi]
end Go.Proofs.YtnlhbknajdpnbaaGreatDoor
namespace Go.Proofs.YtnlhbknajdpnbaaGreatDoor
open Go.RowKit
set_option maxRecDepth 8000
def octAt (n s i:Nat):UInt8:=UInt8.ofNat (n / 256 ^ (s - 1 - i))
def octL (n s:Nat):List UInt8:=(List.range s).map (octAt n s)
theorem zav (n s:Nat):(octL n s).length=s:=by simp [octL]
def octTo (n s k:Nat):List UInt8:=zfd (octAt n s) s (fun i=>decide (s≤i+k))
theorem octTo_all (n s:Nat):octTo n s s=octL n s:=fillP_all fun i _=>by simp
theorem octTo_set {n s k : Nat} (hk : k < s) : (octTo n s k).set (s - 1 - k) (octAt n s (s - 1 - k)) = octTo n s (k + 1) := by
 refine fillP_set (by simp;omega) fun i hi=>?_
 have:(s≤i+(k+1))=(s≤i+k):=by apply propext;omega
 simp [this]
theorem oct_val {n s k : Nat} (hk : k < s) : Value.int .u8 (IntKind.u8.wrap ((n : Int) / 2 ^ (8 * k))) = U (octAt n s (s - 1 - k)) := by
 have e : ((n : Int) / 2 ^ (8 * k)) = ((n / 256 ^ k : Nat) : Int) := by
  rw [show (256:Nat)=2 ^ 8 from rfl,←Nat.pow_mul];simp
 rw [e,IntKind.wrap_u8']
 simp only [U,octAt]
 rw [show s - 1 - (s - 1 - k)=k from by omega]
 simp
def OctRel (B g : Nat) (n s k : Nat) (w wr : World) : Prop :=
 wr.ownsRow B 5 1 (.slice (some ⟨g,0,none⟩) s s) s (Us (octTo n s k))∧Below B w wr∧B≤g
theorem OctRel.cell {B g n s k j : Nat} {w wr : World} (h : OctRel B g n s k w wr) (hj : j < s) : ∃ u, wr.cell? ⟨g, j, none⟩ = some u := by
 have h1:=h.1.cellAt j (by omega)
 have hl:j < (Us (octTo n s k)).length:=by rw [zat,octTo,fillP_length];exact hj
 rw [List.getElem?_eq_getElem hl] at h1
 exact ⟨_,h1⟩
theorem OctRel.step {B g n s k : Nat} {w wr : World} (h : OctRel B g n s k w wr) (hk : k < s) :
 OctRel B g n s (k+1) w (wr.setCell ⟨g,s - 1 - k,none⟩ (.int .u8 (IntKind.u8.wrap ((n:Int) / 2 ^ (8*k))))):=by
 rw [oct_val hk]
 refine ⟨?_,(h.2.1.setCell (p:=⟨g,s - 1 - k,none⟩) h.2.2 _),h.2.2⟩
 have h1:=(h.1.stored (s - 1 - k) (U (octAt n s (s - 1 - k)))).1
 rw [Us_set,octTo_set hk] at h1
 exact h1
theorem OctRel.done {B g n s k : Nat} {w wr : World} (h : OctRel B g n s k w wr) (hB : B = w.heap.size) (hk : k = s) :
 Gives w (octL n s) 0 (.returned (.tuple #[.slice (some ⟨g,0,none⟩) s s,.int .i64 0])) wr:=by
 subst hB hk
 refine ⟨_,k,by rw [zav],?_,h.2.1⟩
 have h1:=h.1
 rw [octTo_all] at h1
 exact Sees.of_own h1
end Go.Proofs.YtnlhbknajdpnbaaGreatDoor
namespace Go.Proofs.YtnlhbknajdpnbaaGreatDoor
open Go.RowKit
theorem SeesP.ony {w w':World} {A:Option Addr} {cs:List Value} (h:SeesP w (· < w.heap.size) A cs) (hb:Below w.heap.size w w'):SeesP w' (· < w'.heap.size) A cs:=SeesP.iff_sees.2 ((SeesP.iff_sees.1 h).on hb)
theorem below_al (w:World) (o:Obj):Below w.heap.size w (w.alloc o):=(Below.refl _ w).alloc (Nat.le_refl _) o
def MkN (w:World) (n:Nat) (l:List UInt8) (e:Ending) (w':World):Prop:=∃A c,e=.returned (.slice A n c)∧n≤c∧(A=none→c=0)∧SeesP w' (· < w'.heap.size) A (Us l)∧Below w.heap.size w w'
theorem some_of {w : World} {p : Nat → Prop} {A : Option Addr} {l : List UInt8} (h : SeesP w p A (Us l)) (h0 : 0 < l.length) : A ≠ none := by
 intro e
 subst e
 have:=congrArg List.length h.none_nil
 rw [zat] at this
 simp at this
 subst this
 simp at h0
theorem MkN.al {W w' : World} {o : Obj} {n : Nat} {l : List UInt8} {e : Ending} (h : MkN (W.alloc o) n l e w') : MkN W n l e w' := by
 obtain ⟨A,c,he,h1,h2,h3,h4⟩:=h
 exact ⟨A,c,he,h1,h2,h3,zaf (below_al W o) h4⟩
theorem SeesP.first {w : World} {p : Nat → Prop} {A : Option Addr} {l : List UInt8} (h : SeesP w p A (Us l)) (k : Nat) : SeesP w p A (Us (l.take k)) := by
 rcases h with h | ⟨b,off,e,hb,hc⟩
 · have := congrArg List.length h; rw [zat] at this; have : l = [] := List.eq_nil_of_length_eq_zero (by simpa using this)
   subst this;exact .inl (by simp [Us])
 · refine .inr ⟨b, off, e, hb, fun j hj => ?_⟩
   rw [zat,List.length_take] at hj
   rw [hc j (by rw [zat];omega),Us_take,List.getElem?_take,if_pos (by omega)]
def InB (w:World) (A:Option Addr) (a c:Nat) (x:List UInt8):Prop:=x.length=a∧a≤140737488351300∧(A=none→c=0)∧SeesP w (· < w.heap.size) A (Us x)
theorem InB.on {w w':World} {A:Option Addr} {a c:Nat} {x:List UInt8} (h:InB w A a c x) (hb:Below w.heap.size w w'):InB w' A a c x:=⟨h.1,h.2.1,h.2.2.1,h.2.2.2.ony hb⟩
end Go.Proofs.YtnlhbknajdpnbaaGreatDoor
