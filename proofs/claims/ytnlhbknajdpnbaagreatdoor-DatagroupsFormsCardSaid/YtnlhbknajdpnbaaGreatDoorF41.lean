/-
  What is proved here: what the reference's list, Parse, Size and Canonical return, and the program's Canonical, for bytes that lie in memory.
-/
import Derived.Test.YtnlhbknajdpnbaaGreatDoorF40
import Derived.Test.YtnlhbknajdpnbaaGreatDoorF38
import Derived.Test.YtnlhbknajdpnbaaGreatDoorF19
import Derived.Test.YtnlhbknajdpnbaaGreatDoorF8
import Derived.Test.YtnlhbknajdpnbaaGreatDoorF39
import Derived.Laws.StructEq
import Derived.Test.YtnlhbknajdpnbaaGreatDoorF17
import Derived.Test.YtnlhbknajdpnbaaGreatDoorF16
import Derived.Test.YtnlhbknajdpnbaaGreatDoorF34
import Derived.Test.YtnlhbknajdpnbaaGreatDoorRows
import Derived.Test.YtnlhbknajdpnbaaGreatDoorF0
import Derived.Test.YtnlhbknajdpnbaaGreatDoorF6
set_option linter.unusedVariables false
set_option linter.unusedSimpArgs false
namespace Go.Proofs.YtnlhbknajdpnbaaGreatDoor
open Go.RowKit
set_option maxRecDepth 8000
theorem zeS (st : Bool) : ∀ k, k ≤ 8 → RAll st k
 | 0,_=>zet st 0 (by decide) (fun j h=>by omega)
 | k + 1, hk => zet st (k + 1) hk (fun j h => by
   have:j=k:=by omega
   subst this
   exact zeS st j (by omega))
theorem ref_parse (st : Bool) (l : List UInt8) (A : Option Addr) (cap : Nat) (w : World) (hl : l.length ≤ 140737488351232) (hcap : l.length ≤ cap) (hs : SeesP w (· < w.heap.size) A (Us l)) :
 Calls Tryz.prog 9 #[.slice A l.length cap,.bool st] w (ParIs w (zcu st l)):=by
 by_cases h:4096 < l.length
 · have e : zcu st l = .error 2 := by unfold zcu; rw [if_pos h]
   rw [e]
   have d:decide ((4096:Int) < (l.length:Int))=true:=by simp;omega
   clear h hs e
   go_enter Tryz.func9,Tryz.ntmps9
   go_wp2_with fail
   go_ret2
   exact ⟨Below.refl _ _,rfl,by decide⟩
 · have d : decide ((4096 : Int) < (l.length : Int)) = false := by simp; omega
   have hR:=zeS st 8 (Nat.le_refl _) false 1 0 l A cap w _ (by decide) (fun x hx=>hx) (by decide) (by omega) hcap hs
   have e:zcu st l=zbH (pObj st 8) l.length 0 l:=by unfold zcu;rw [if_neg h]
   have e2 : zbM false (pObj st 8) l.length 0 l = match zcu st l with | .error e => .error e | .ok (f, c') => .ok (f, [], c') := by
    unfold zbM
    rw [if_neg (by decide),e]
    cases zbH (pObj st 8) l.length 0 l with
    | error e=>rfl
    | ok q=>rfl
   rw [e2] at hR
   obtain ⟨r,hrr⟩ : ∃r,r=zcu st l:=⟨_,rfl⟩
   rw [←hrr] at hR ⊢
   clear e e2 h hs hrr
   cases r with
   | error x =>
     have HR:=Lib.hid hR
     clear hR
     go_enter Tryz.func9,Tryz.ntmps9
     go_wp2_with fail
     refine HR.out.mono ?_
     rintro e w1 ⟨hb,rfl,hx⟩
     have HF:=Lib.hid (show _∧_ from ⟨hb,hx⟩)
     clear hb hx HR
     go_wp2_with fail
     go_ret2
     exact ⟨HF.out.1,rfl,HF.out.2⟩
   | ok q =>
     obtain ⟨f,n⟩:=q
     have HR:=Lib.hid hR
     clear hR
     go_enter Tryz.func9,Tryz.ntmps9
     go_wp2_with fail
     refine HR.out.mono ?_
     rintro e w1 ⟨hb,A1,c1,rfl,s1⟩
     have HF:=Lib.hid (show _∧_ from ⟨hb,s1⟩)
     clear hb s1 HR
     go_wp2_with fail
     go_ret2
     exact ⟨HF.out.1,A1,c1,rfl,HF.out.2⟩
end Go.Proofs.YtnlhbknajdpnbaaGreatDoor
namespace Go.Proofs.YtnlhbknajdpnbaaGreatDoor
open Go.RowKit
set_option maxRecDepth 8000
def x5:Im:=⟨5,2,0,0,0⟩
theorem peb2 {a:Act} {x0 x1:Operand} {u0 u1:Value} (h0:a.eval x0=u0) (h1:a.eval x1=u1):((#[(0,x0),(1,x1)]:Array (Nat×Operand)).map fun (i,x)=>(i,a.eval x)).toList=[(0,u0),(1,u1)]:=by simp [h0,h1]
end Go.Proofs.YtnlhbknajdpnbaaGreatDoor
namespace Go.Proofs.YtnlhbknajdpnbaaGreatDoor
open Go.RowKit
set_option maxRecDepth 8000
theorem HeldI.dice {w a b : World} {v : Value} {L : List Im} {D : Nat} (h : HeldI w a v L) (hg : a.grownBy b (some D)) (hD : D < w.heap.size) : HeldI w b v L := by
 unfold HeldI at h ⊢
 refine zbm h hg fun e=>?_
 have:=(zas h D e).1
 omega
theorem HeldI.below {w a b:World} {v:Value} {L:List Im} (h:HeldI w a v L) (hb:Below a.heap.size a b):HeldI w b v L:=zaI h hb
theorem HeldI.wrote {w a b : World} {v : Value} {L : List Im} {g : Nat} (h : HeldI w a v L) (hw : Wr a b g) (hne : v.ownBlock ≠ some g) : HeldI w b v L := by
 unfold HeldI at h ⊢
 exact zbm h (wr_grown hw) hne
theorem zdd : ∀ {L : List Im} {q : Option Im} {x : Im}, chkI q L = 0 → oneI x = 0 → (∀ y ∈ L, behB x y = true) → (∀ y, q = some y → behB x y = true) → chkI q (L ++ [x]) = 0
 | [], q, x, _, h1, _, h3 => by
   show (if oneI x≠0 then oneI x else if ordB x q=false then 17 else chkI (some x) [])=0
   rw [if_neg (by rw [h1];decide)]
   have : ordB x q = true := by
    cases q with
    | none=>rfl
    | some y=>exact h3 y rfl
   rw [if_neg (by rw [this];decide)]
   rfl
 | y :: r, q, x, h, h1, h2, h3 => by
   unfold chkI at h
   show (if oneI y≠0 then oneI y else if ordB y q=false then 17 else chkI (some y) (r++[x]))=0
   split at h
   · rename_i e;exact absurd h e
   · rename_i e
     rw [if_neg e]
     split at h
     · cases h
     · rename_i e2
       rw [if_neg e2]
       exact zdd h h1 (fun z hz=>h2 z (List.mem_cons_of_mem _ hz)) (fun z hz=>by injection hz with hz;subst hz;exact h2 _ (List.mem_cons_self ..))
theorem beh_p {x y:Im} (h:y.p < x.p):behB x y=true:=by simp [behB,h]
theorem beh_i {x y:Im} (h:y.p=x.p) (h2:y.i < x.i):behB x y=true:=by simp [behB,h,h2]
theorem one_pw {p v a : Int} (hp : p = 2 ∨ p = 3) (h1 : 1 ≤ v) (h2 : v ≤ 255) (h3 : 0 ≤ a) (h4 : a ≤ 31) : oneI ⟨p, v, a, 0, 0⟩ = 0 := by
 rcases hp with rfl | rfl <;> simp [oneI,rngI,parB,kidB,keyB,pwB,h1,h2,h3,h4]
theorem one_plain {p v : Int} (hp : p = 5 ∨ p = 6) (h1 : 1 ≤ v) (h2 : v ≤ 255) : oneI ⟨p, v, 0, 0, 0⟩ = 0 := by
 rcases hp with rfl | rfl <;> simp [oneI,rngI,parB,kidB,keyB,pwB,h1,h2]
theorem one_chip {v k i : Int} (h1 : 1 ≤ v) (h2 : v ≤ 255) (h3 : 0 ≤ i) (h4 : i ≤ 255) (hk : elB k = true) : oneI ⟨4, v, 0, k, i⟩ = 0 := by
 simp [oneI,rngI,parB,kidB,keyB,pwB,h1,h2,h3,h4,hk]
theorem bldI2g (a b:Int):Tryz.prog.built 93 [(0,.int .i64 a),(1,.int .i64 b)]=some (⟨a,b,0,0,0⟩ : Im).cs.toArray:=by kernel_rfl
theorem point_el (n:Int):elB (zbE n)=true:=pt_el (near_bd n).1 (by have:=(near_bd n).2;omega)
def InfsIs (w:World) (D:Nat) (e:Ending) (w':World):Prop:=∃v L,e=.returned v∧vaE L=0∧L.length≤15∧HeldI w w' v L∧w.grownBy w' (some D)∧DiceOk w' D
set_option maxHeartbeats 12800000 in
set_option maxRecDepth 20000 in
theorem dice_infos (D : Nat) (w : World) (h : DiceOk w D) :
 Calls Tryz.prog 22 #[.pointer (some ⟨D,0,none⟩)] w (InfsIs w D):=by
 obtain ⟨i0,hi,hz0,hz1,hz2⟩:=info_parts info_inf
 have HD:=Lib.hid h
 have HDw:=Lib.hid h.lt
 have HON:=Lib.hid (show ∀w,DiceOk w D→Calls Tryz.prog 41 #[.pointer (some ⟨D,0,none⟩),.int .i64 2] w (OneIs w D) from fun w h=>zeg D 2 w (by decide) (by decide) h)
 have HNX:=Lib.hid (show ∀(n:Nat) (w:World),0 < n→n≤4611686018427387903→DiceOk w D→Calls Tryz.prog 8 #[.pointer (some ⟨D,0,none⟩),.int .i64 (n:Int)] w (zbj w D n) from fun n w h1 h2 h=>zar D n w h1 h2 h)
 have N255:=Lib.hid (show ∀(w:World),DiceOk w D→Calls Tryz.prog 8 #[.pointer (some ⟨D,0,none⟩),.int .i64 255] w (zbj w D 255) from fun w h=>HNX.out 255 w (by decide) (by decide) h)
 have N32:=Lib.hid (show ∀(w:World),DiceOk w D→Calls Tryz.prog 8 #[.pointer (some ⟨D,0,none⟩),.int .i64 32] w (zbj w D 32) from fun w h=>HNX.out 32 w (by decide) (by decide) h)
 have N3:=Lib.hid (show ∀(w:World),DiceOk w D→Calls Tryz.prog 8 #[.pointer (some ⟨D,0,none⟩),.int .i64 3] w (zbj w D 3) from fun w h=>HNX.out 3 w (by decide) (by decide) h)
 have N40:=Lib.hid (show ∀(w:World),DiceOk w D→Calls Tryz.prog 8 #[.pointer (some ⟨D,0,none⟩),.int .i64 40] w (zbj w D 40) from fun w h=>HNX.out 40 w (by decide) (by decide) h)
 have N30:=Lib.hid (show ∀(w:World),DiceOk w D→Calls Tryz.prog 8 #[.pointer (some ⟨D,0,none⟩),.int .i64 1073741824] w (zbj w D 1073741824) from fun w h=>HNX.out 1073741824 w (by decide) (by decide) h)
 clear h HNX
 go_enter Tryz.func22,Tryz.ntmps22
 go_wp2
 go_loopw [3,4] (fun v i wr=>∃p:Int,2≤p∧p≤7∧i=.int .i64 p∧Hid (∃L,HeldI w wr v L∧chkI none L=0∧(∀y∈L,y.p < p)∧(L.length:Int)≤3*(p - 2)∧w.grownBy wr (some D)∧DiceOk wr D)) (fun _ i _=>(7 - intOf i).toNat)
 case atStart=>exact ⟨2,by omega,by omega,rfl,Lib.hid ⟨[],HeldI.start _ _,rfl,fun y h=>(by cases h),by decide,zaD (Below.refl _ _),HD.out⟩⟩
 case round =>
  obtain ⟨p,hp2,hp7,rfl,HRx⟩:=hrel
  obtain ⟨L,hR⟩:=HRx.out
  have HR:=Lib.hid hR
  clear HRx hR
  obtain ⟨jl,hjl⟩ : ∃z,L.length=z:=⟨_,rfl⟩
  have HJL:=Lib.hid hjl
  have hjlb:jl≤100:=by have h:=HR.out.2.2.2.1;omega
  clear hjl
  by_cases hlt:p < 7
  · have hps : p = 2 ∨ p = 3 ∨ p = 4 ∨ p = 5 ∨ p = 6 := by omega
    clear hp2 hp7 hlt
    rcases hps with rfl | rfl | rfl | rfl | rfl
    · go_wp2_with (first
      | (go_at_call 41;((with_reducible refine (HON.out _ HR.out.2.2.2.2.2).mono ?_);rintro e w1 ⟨q1,rfl,hg,hd⟩);have H1:=Lib.hid (show HeldI w w1 u3 L∧w.grownBy w1 (some D)∧DiceOk w1 D from ⟨HR.out.1.dice hg HDw.out,zae HR.out.2.2.2.2.1 hg,hd⟩);clear hg hd;rcases q1 with _ | _)
      | (go_at_call 8;((with_reducible refine (N255.out _ H1.out.2.2).mono ?_);rintro e w2 ⟨r,hr,rfl,hg,hd⟩);have H2:=Lib.hid (show HeldI w w2 u3 L∧w.grownBy w2 (some D)∧DiceOk w2 D from ⟨H1.out.1.dice hg HDw.out,zae H1.out.2.1 hg,hd⟩);have er:wrap64 (1+(r:Int))=1+(r:Int):=(by unfold wrap64;omega);have HVR:=Lib.hid (show 1≤1+(r:Int)∧1+(r:Int)≤255 from (by omega));clear hr;clear hg hd)
      | ((with_reducible refine zal (d:=18) ?_);go_must (refine zcv rfl 93 _ rfl (peb2 rfl rfl) (bldI2g _ _) ?_))
      | ((with_reducible refine zaG (d:=5) ?_);refine zam (op:=⟨some 5,_,_,_,_,_⟩) rfl 93 rfl zerX zcp ?_;intro g5 w3 hf hr;have H5N:=Lib.hid (show D < g5∧g5≠D∧w.heap.size≤g5 from (by have h1:=hf.1;have h2:=H2.out.2.1.size;have h3:=HDw.out;omega));have HNB:=Lib.hid (show u3.ownBlock≠some g5 from fun e=>(by have h1:=(zas H2.out.1 g5 e).2;have h2:=hf.1;omega));have H3:=Lib.hid (show HeldI w w3 u3 L∧w.grownBy w3 (some D)∧DiceOk w3 D∧RowV w3 g5 zerX from ⟨H2.out.1.below hf.bw,H2.out.2.1.on hf.bw,H2.out.2.2.below hf.bw,hr⟩);clear hf hr)
      | ((with_reducible refine zak (i:=5) ?_);refine zan rfl 93 (.tmp 5) (.tmp 18) rfl g5 zerX (⟨2,1+(r:Int),0,0,0⟩ : Im).cs rfl (by first | rfl | exact congrArg (fun z:Int=>Value.agg (⟨2,z,0,0,0⟩ : Im).cs.toArray) er) H3.out.2.2.2 rfl (Im.cs_one _) zaT ?_;intro w4 hw hr;have H4:=Lib.hid (show HeldI w w4 u3 L∧w.grownBy w4 (some D)∧DiceOk w4 D∧RowV w4 g5 (⟨2,1+(r:Int),0,0,0⟩ : Im).cs from ⟨H3.out.1.wrote hw HNB.out,H3.out.2.1.wrote hw H5N.out.2.2,H3.out.2.2.1.wrote hw H5N.out.1,hr⟩);clear hw hr)
      | (go_at_call 8;((with_reducible refine (N32.out _ H4.out.2.2.1).mono ?_);rintro e w5 ⟨a,ha,rfl,hg,hd⟩);have H6:=Lib.hid (show HeldI w w5 u3 L∧w.grownBy w5 (some D)∧DiceOk w5 D∧RowV w5 g5 (⟨2,1+(r:Int),0,0,0⟩ : Im).cs from ⟨H4.out.1.dice hg HDw.out,zae H4.out.2.1 hg,hd,H4.out.2.2.2.dice hg H5N.out.2.1⟩);have HVA:=Lib.hid ha;clear ha;clear hg hd)
      | ((with_reducible refine zak (i:=25) ?_);go_must (refine zaj rfl 3 (.tmp 25) (.tmp 24) rfl g5 2 (⟨2,1+(r:Int),0,0,0⟩ : Im).cs (.int .i64 ((a:Int))) rfl rfl H6.out.2.2.2 (by rw [Im.cs_len];decide) rfl rfl zcO ?_);intro w6 hw hr;have H7:=Lib.hid (show HeldI w w6 u3 L∧w.grownBy w6 (some D)∧DiceOk w6 D∧RowV w6 g5 (⟨2,1+(r:Int),(a:Int),0,0⟩ : Im).cs from ⟨H6.out.1.wrote hw (HNB.out ),H6.out.2.1.wrote hw H5N.out.2.2,H6.out.2.2.1.wrote hw H5N.out.1,hr⟩);clear hw hr)
      | ((with_reducible refine zaa (d:=51) ?_);refine zaJ rfl 93 (.tmp 5) rfl g5 rfl (⟨2,1+(r:Int),(a:Int),0,0⟩ : Im).cs _ H7.out.2.2.2 Tryz.underlying93 rfl (by rw [Im.cs_len];exact zaT) ?_)
      | ((with_reducible refine zal (d:=52) ?_);go_must (refine zap rfl 55 93 1 _ rfl Tryz.underlying55 (pe1 rfl) (bsx (⟨2,1+(r:Int),(a:Int),0,0⟩ : Im)) ?_);intro g9 wf hf hr;have H9:=Lib.hid (show HeldI w wf u3 L∧w.grownBy wf (some D)∧DiceOk wf D∧RowV wf g5 (⟨2,1+(r:Int),(a:Int),0,0⟩ : Im).cs∧RowV wf g9 (⟨2,1+(r:Int),(a:Int),0,0⟩ : Im).cs from ⟨H7.out.1.below hf.bw,H7.out.2.1.on hf.bw,H7.out.2.2.1.below hf.bw,H7.out.2.2.2.fresh hf,hr⟩);clear hf hr)
      | ((with_reducible refine zaS (d:=53) ?_);have HO:=H9.out.1;unfold HeldI at HO;rw [HJL.out] at HO;go_must (refine wpList_append_lies _ rfl (.tmp 50) (.tmp 52) 55 rfl w.heap.size 93 i0 _ 5 40 Tryz.underlying55 hi hz0 hz1 hz2 rfl (by decide) u3 jl (Ics L) rfl HO ⟨g9,0,none⟩ 1 1 (⟨2,1+(r:Int),(a:Int),0,0⟩ : Im).cs rfl rfl (RowV.src H9.out.2.2.2.2) (Im.cs_one _) (by decide) (by unfold maxLen;omega) (by omega) H9.out.2.1.size _ rfl ?_);intro g10 c10 wg ho hg hl hltg;have H10:=Lib.hid (show HeldI w wg (.slice (some ⟨g10,0,none⟩) (jl+1) c10) (L++[(⟨2,1+(r:Int),(a:Int),0,0⟩ : Im)])∧w.grownBy wg (some D)∧DiceOk wg D∧(u3.ownBlock≠some g5→RowV wg g5 (⟨2,1+(r:Int),(a:Int),0,0⟩ : Im).cs) from ⟨by unfold HeldI;rw [zdA,List.length_append,HJL.out];exact ho,zaF H9.out.2.1 hg (fun k e=>(zas HO k e).1),H9.out.2.2.1.grown hg (fun k e=>Nat.lt_of_lt_of_le HDw.out (zas HO k e).1),fun hne=>H9.out.2.2.2.1.same (hg.block _ H9.out.2.2.2.1.lt fun e=>hne e.symm)⟩);have H10N:=Lib.hid (show u3.ownBlock≠some g5→g10≠g5 from fun hne e=>hl.elim (fun h=>hne (by rw [h,e])) (fun h=>by have:=H9.out.2.2.2.1.lt;omega));clear ho hg hl hltg HO))
      · go_roundw
        case rel=>exact ⟨3,by omega,by omega,by first | rfl | go_num,Lib.hid ⟨L,H1.out.1,HR.out.2.1,fun y hy=>Int.lt_trans (HR.out.2.2.1 y hy) (by decide),by have h:=HR.out.2.2.2.1;omega,H1.out.2.1,H1.out.2.2⟩⟩
        case measure=>simp [intOf]
      · go_roundw
        case rel => exact ⟨3, by omega, by omega, by first | rfl | go_num, Lib.hid ⟨L ++ [(⟨2, 1 + (r : Int), (a : Int), 0, 0⟩ : Im)], H10.out.1, zdd HR.out.2.1 (one_pw (by decide) HVR.out.1 HVR.out.2 (by omega) (by have := HVA.out; omega)) (fun y hy => beh_p (HR.out.2.2.1 y hy)) (fun y h => by cases h), fun y hy => by
         rcases List.mem_append.1 hy with hy | hy
         · exact Int.lt_trans (HR.out.2.2.1 y hy) (by decide)
         · rw [List.mem_singleton.1 hy];show (2:Int) < 2+1;decide,by have h:=HR.out.2.2.2.1;rw [List.length_append];simp only [List.length_singleton,Int.natCast_add];omega,H10.out.2.1,H10.out.2.2.1⟩⟩
        case measure=>simp [intOf]
    · go_wp2_with (first
      | (go_at_call 41;((with_reducible refine (HON.out _ HR.out.2.2.2.2.2).mono ?_);rintro e w1 ⟨q1,rfl,hg,hd⟩);have H1:=Lib.hid (show HeldI w w1 u3 L∧w.grownBy w1 (some D)∧DiceOk w1 D from ⟨HR.out.1.dice hg HDw.out,zae HR.out.2.2.2.2.1 hg,hd⟩);clear hg hd;rcases q1 with _ | _)
      | (go_at_call 8;((with_reducible refine (N255.out _ H1.out.2.2).mono ?_);rintro e w2 ⟨r,hr,rfl,hg,hd⟩);have H2:=Lib.hid (show HeldI w w2 u3 L∧w.grownBy w2 (some D)∧DiceOk w2 D from ⟨H1.out.1.dice hg HDw.out,zae H1.out.2.1 hg,hd⟩);have er:wrap64 (1+(r:Int))=1+(r:Int):=(by unfold wrap64;omega);have HVR:=Lib.hid (show 1≤1+(r:Int)∧1+(r:Int)≤255 from (by omega));clear hr;clear hg hd)
      | ((with_reducible refine zal (d:=18) ?_);go_must (refine zcv rfl 93 _ rfl (peb2 rfl rfl) (bldI2g _ _) ?_))
      | ((with_reducible refine zaG (d:=5) ?_);refine zam (op:=⟨some 5,_,_,_,_,_⟩) rfl 93 rfl zerX zcp ?_;intro g5 w3 hf hr;have H5N:=Lib.hid (show D < g5∧g5≠D∧w.heap.size≤g5 from (by have h1:=hf.1;have h2:=H2.out.2.1.size;have h3:=HDw.out;omega));have HNB:=Lib.hid (show u3.ownBlock≠some g5 from fun e=>(by have h1:=(zas H2.out.1 g5 e).2;have h2:=hf.1;omega));have H3:=Lib.hid (show HeldI w w3 u3 L∧w.grownBy w3 (some D)∧DiceOk w3 D∧RowV w3 g5 zerX from ⟨H2.out.1.below hf.bw,H2.out.2.1.on hf.bw,H2.out.2.2.below hf.bw,hr⟩);clear hf hr)
      | ((with_reducible refine zak (i:=5) ?_);refine zan rfl 93 (.tmp 5) (.tmp 18) rfl g5 zerX (⟨3,1+(r:Int),0,0,0⟩ : Im).cs rfl (by first | rfl | exact congrArg (fun z:Int=>Value.agg (⟨3,z,0,0,0⟩ : Im).cs.toArray) er) H3.out.2.2.2 rfl (Im.cs_one _) zaT ?_;intro w4 hw hr;have H4:=Lib.hid (show HeldI w w4 u3 L∧w.grownBy w4 (some D)∧DiceOk w4 D∧RowV w4 g5 (⟨3,1+(r:Int),0,0,0⟩ : Im).cs from ⟨H3.out.1.wrote hw HNB.out,H3.out.2.1.wrote hw H5N.out.2.2,H3.out.2.2.1.wrote hw H5N.out.1,hr⟩);clear hw hr)
      | (go_at_call 8;((with_reducible refine (N32.out _ H4.out.2.2.1).mono ?_);rintro e w5 ⟨a,ha,rfl,hg,hd⟩);have H6:=Lib.hid (show HeldI w w5 u3 L∧w.grownBy w5 (some D)∧DiceOk w5 D∧RowV w5 g5 (⟨3,1+(r:Int),0,0,0⟩ : Im).cs from ⟨H4.out.1.dice hg HDw.out,zae H4.out.2.1 hg,hd,H4.out.2.2.2.dice hg H5N.out.2.1⟩);have HVA:=Lib.hid ha;clear ha;clear hg hd)
      | ((with_reducible refine zak (i:=25) ?_);go_must (refine zaj rfl 3 (.tmp 25) (.tmp 24) rfl g5 2 (⟨3,1+(r:Int),0,0,0⟩ : Im).cs (.int .i64 ((a:Int))) rfl rfl H6.out.2.2.2 (by rw [Im.cs_len];decide) rfl rfl zcO ?_);intro w6 hw hr;have H7:=Lib.hid (show HeldI w w6 u3 L∧w.grownBy w6 (some D)∧DiceOk w6 D∧RowV w6 g5 (⟨3,1+(r:Int),(a:Int),0,0⟩ : Im).cs from ⟨H6.out.1.wrote hw (HNB.out ),H6.out.2.1.wrote hw H5N.out.2.2,H6.out.2.2.1.wrote hw H5N.out.1,hr⟩);clear hw hr)
      | ((with_reducible refine zaa (d:=51) ?_);refine zaJ rfl 93 (.tmp 5) rfl g5 rfl (⟨3,1+(r:Int),(a:Int),0,0⟩ : Im).cs _ H7.out.2.2.2 Tryz.underlying93 rfl (by rw [Im.cs_len];exact zaT) ?_)
      | ((with_reducible refine zal (d:=52) ?_);go_must (refine zap rfl 55 93 1 _ rfl Tryz.underlying55 (pe1 rfl) (bsx (⟨3,1+(r:Int),(a:Int),0,0⟩ : Im)) ?_);intro g9 wf hf hr;have H9:=Lib.hid (show HeldI w wf u3 L∧w.grownBy wf (some D)∧DiceOk wf D∧RowV wf g5 (⟨3,1+(r:Int),(a:Int),0,0⟩ : Im).cs∧RowV wf g9 (⟨3,1+(r:Int),(a:Int),0,0⟩ : Im).cs from ⟨H7.out.1.below hf.bw,H7.out.2.1.on hf.bw,H7.out.2.2.1.below hf.bw,H7.out.2.2.2.fresh hf,hr⟩);clear hf hr)
      | ((with_reducible refine zaS (d:=53) ?_);have HO:=H9.out.1;unfold HeldI at HO;rw [HJL.out] at HO;go_must (refine wpList_append_lies _ rfl (.tmp 50) (.tmp 52) 55 rfl w.heap.size 93 i0 _ 5 40 Tryz.underlying55 hi hz0 hz1 hz2 rfl (by decide) u3 jl (Ics L) rfl HO ⟨g9,0,none⟩ 1 1 (⟨3,1+(r:Int),(a:Int),0,0⟩ : Im).cs rfl rfl (RowV.src H9.out.2.2.2.2) (Im.cs_one _) (by decide) (by unfold maxLen;omega) (by omega) H9.out.2.1.size _ rfl ?_);intro g10 c10 wg ho hg hl hltg;have H10:=Lib.hid (show HeldI w wg (.slice (some ⟨g10,0,none⟩) (jl+1) c10) (L++[(⟨3,1+(r:Int),(a:Int),0,0⟩ : Im)])∧w.grownBy wg (some D)∧DiceOk wg D∧(u3.ownBlock≠some g5→RowV wg g5 (⟨3,1+(r:Int),(a:Int),0,0⟩ : Im).cs) from ⟨by unfold HeldI;rw [zdA,List.length_append,HJL.out];exact ho,zaF H9.out.2.1 hg (fun k e=>(zas HO k e).1),H9.out.2.2.1.grown hg (fun k e=>Nat.lt_of_lt_of_le HDw.out (zas HO k e).1),fun hne=>H9.out.2.2.2.1.same (hg.block _ H9.out.2.2.2.1.lt fun e=>hne e.symm)⟩);have H10N:=Lib.hid (show u3.ownBlock≠some g5→g10≠g5 from fun hne e=>hl.elim (fun h=>hne (by rw [h,e])) (fun h=>by have:=H9.out.2.2.2.1.lt;omega));clear ho hg hl hltg HO))
      · go_roundw
        case rel=>exact ⟨4,by omega,by omega,by first | rfl | go_num,Lib.hid ⟨L,H1.out.1,HR.out.2.1,fun y hy=>Int.lt_trans (HR.out.2.2.1 y hy) (by decide),by have h:=HR.out.2.2.2.1;omega,H1.out.2.1,H1.out.2.2⟩⟩
        case measure=>simp [intOf]
      · go_roundw
        case rel => exact ⟨4, by omega, by omega, by first | rfl | go_num, Lib.hid ⟨L ++ [(⟨3, 1 + (r : Int), (a : Int), 0, 0⟩ : Im)], H10.out.1, zdd HR.out.2.1 (one_pw (by decide) HVR.out.1 HVR.out.2 (by omega) (by have := HVA.out; omega)) (fun y hy => beh_p (HR.out.2.2.1 y hy)) (fun y h => by cases h), fun y hy => by
         rcases List.mem_append.1 hy with hy | hy
         · exact Int.lt_trans (HR.out.2.2.1 y hy) (by decide)
         · rw [List.mem_singleton.1 hy];show (3:Int) < 3+1;decide,by have h:=HR.out.2.2.2.1;rw [List.length_append];simp only [List.length_singleton,Int.natCast_add];omega,H10.out.2.1,H10.out.2.2.1⟩⟩
        case measure=>simp [intOf]
    · go_wp2_with (first
      | (go_at_call 41;((with_reducible refine (HON.out _ HR.out.2.2.2.2.2).mono ?_);rintro e w1 ⟨q1,rfl,hg,hd⟩);have H1:=Lib.hid (show HeldI w w1 u3 L∧w.grownBy w1 (some D)∧DiceOk w1 D from ⟨HR.out.1.dice hg HDw.out,zae HR.out.2.2.2.2.1 hg,hd⟩);clear hg hd;rcases q1 with _ | _)
      | (go_at_call 8;((with_reducible refine (N255.out _ H1.out.2.2).mono ?_);rintro e w2 ⟨r,hr,rfl,hg,hd⟩);have H2:=Lib.hid (show HeldI w w2 u3 L∧w.grownBy w2 (some D)∧DiceOk w2 D from ⟨H1.out.1.dice hg HDw.out,zae H1.out.2.1 hg,hd⟩);have er:wrap64 (1+(r:Int))=1+(r:Int):=(by unfold wrap64;omega);have HVR:=Lib.hid (show 1≤1+(r:Int)∧1+(r:Int)≤255 from (by omega));clear hr;clear hg hd)
      | ((with_reducible refine zal (d:=18) ?_);go_must (refine zcv rfl 93 _ rfl (peb2 rfl rfl) (bldI2g _ _) ?_))
      | ((with_reducible refine zaG (d:=5) ?_);refine zam (op:=⟨some 5,_,_,_,_,_⟩) rfl 93 rfl zerX zcp ?_;intro g5 w3 hf hr;have H5N:=Lib.hid (show D < g5∧g5≠D∧w.heap.size≤g5 from (by have h1:=hf.1;have h2:=H2.out.2.1.size;have h3:=HDw.out;omega));have HNB:=Lib.hid (show u3.ownBlock≠some g5 from fun e=>(by have h1:=(zas H2.out.1 g5 e).2;have h2:=hf.1;omega));have H3:=Lib.hid (show HeldI w w3 u3 L∧w.grownBy w3 (some D)∧DiceOk w3 D∧RowV w3 g5 zerX from ⟨H2.out.1.below hf.bw,H2.out.2.1.on hf.bw,H2.out.2.2.below hf.bw,hr⟩);clear hf hr)
      | ((with_reducible refine zak (i:=5) ?_);refine zan rfl 93 (.tmp 5) (.tmp 18) rfl g5 zerX (⟨4,1+(r:Int),0,0,0⟩ : Im).cs rfl (by first | rfl | exact congrArg (fun z:Int=>Value.agg (⟨4,z,0,0,0⟩ : Im).cs.toArray) er) H3.out.2.2.2 rfl (Im.cs_one _) zaT ?_;intro w4 hw hr;have H4:=Lib.hid (show HeldI w w4 u3 L∧w.grownBy w4 (some D)∧DiceOk w4 D∧RowV w4 g5 (⟨4,1+(r:Int),0,0,0⟩ : Im).cs from ⟨H3.out.1.wrote hw HNB.out,H3.out.2.1.wrote hw H5N.out.2.2,H3.out.2.2.1.wrote hw H5N.out.1,hr⟩);clear hw hr)
      | (go_at_call 8;((with_reducible refine (N3.out _ H4.out.2.2.1).mono ?_);rintro e w5 ⟨b,hb,rfl,hg,hd⟩);have H6:=Lib.hid (show HeldI w w5 u3 L∧w.grownBy w5 (some D)∧DiceOk w5 D∧RowV w5 g5 (⟨4,1+(r:Int),0,0,0⟩ : Im).cs from ⟨H4.out.1.dice hg HDw.out,zae H4.out.2.1 hg,hd,H4.out.2.2.2.dice hg H5N.out.2.1⟩);clear hg hd))
      · go_roundw
        case rel=>exact ⟨5,by omega,by omega,by first | rfl | go_num,Lib.hid ⟨L,H1.out.1,HR.out.2.1,fun y hy=>Int.lt_trans (HR.out.2.2.1 y hy) (by decide),by have h:=HR.out.2.2.2.1;omega,H1.out.2.1,H1.out.2.2⟩⟩
        case measure=>simp [intOf]
      · go_loopw [3, 6] (fun v i wq => ∃ id : Nat, id ≤ 3 ∧ i = .int .i64 (id : Int) ∧ Hid (∃ L2 k i2, HeldI w wq v L2 ∧ w.grownBy wq (some D) ∧ DiceOk wq D ∧ RowV wq g5 (⟨4, 1 + (r : Int), 0, k, i2⟩ : Im).cs ∧ chkI none L2 = 0 ∧ L2.length ≤ jl + id ∧ L2.length ≤ jl + 2 ∧ v.ownBlock ≠ some g5 ∧ (id < 3 → ∀ y ∈ L2, y.p < 4 ∨ (y.p = 4 ∧ y.i < 40 * (id : Int))) ∧ (id = 3 → elB k = true ∧ 80 ≤ i2 ∧ i2 < 120 ∧ ∀ y ∈ L2, y.p < 4 ∨ (y.p = 4 ∧ y.i < 80)))) (fun _ i _ => 3 - (intOf i).toNat)
        case atStart=>exact ⟨b,by omega,rfl,Lib.hid ⟨L,0,0,H6.out.1,H6.out.2.1,H6.out.2.2.1,H6.out.2.2.2,HR.out.2.1,by rw [HJL.out];omega,by rw [HJL.out];omega,HNB.out,fun _ y hy=>.inl (HR.out.2.2.1 y hy),fun h=>by omega⟩⟩
        case round =>
         obtain ⟨id,hid3,rfl,HQx⟩:=hrel
         obtain ⟨L2,k,i2,hQ⟩:=HQx.out
         have HQ:=Lib.hid hQ
         clear HQx hQ HNB
         have HNB:=Lib.hid HQ.out.2.2.2.2.2.2.2.1
         obtain ⟨j2,hj2⟩ : ∃z,L2.length=z:=⟨_,rfl⟩
         have HJ2:=Lib.hid hj2
         have hjb:j2≤100:=by have h1:=HQ.out.2.2.2.2.2.2.1;have h2:=HR.out.2.2.2.1;have h3:=HJL.out;omega
         clear hj2
         by_cases hl3:id < 3
         · have d3 : decide ((id : Int) < 3) = true := by simp; omega
           have e40:wrap64 (40*(id:Int))=40*(id:Int):=by unfold wrap64;omega
           have HQ4:=Lib.hid (show HeldI w wr u3 L2∧w.grownBy wr (some D)∧DiceOk wr D∧RowV wr g5 (⟨4,1+(r:Int),0,k,i2⟩ : Im).cs from ⟨HQ.out.1,HQ.out.2.1,HQ.out.2.2.1,HQ.out.2.2.2.1⟩)
           by_cases hl2:id < 2
           · have d2 : decide ((id : Int) < 2) = true := by simp; omega
             go_wp2_with (first
              | (go_at_call 8;((with_reducible refine (N30.out _ HQ.out.2.2.1).mono ?_);rintro e w7 ⟨m,hm,rfl,hg,hd⟩);have H7:=Lib.hid (show HeldI w w7 u3 L2∧w.grownBy w7 (some D)∧DiceOk w7 D∧RowV w7 g5 (⟨4,1+(r:Int),0,k,i2⟩ : Im).cs from ⟨HQ4.out.1.dice hg HDw.out,zae HQ4.out.2.1 hg,hd,HQ4.out.2.2.2.dice hg H5N.out.2.1⟩);clear hm;clear hg hd)
              | (go_at_call 24;((with_reducible refine (zfX (m:Int) _).mono ?_);rintro e wp ⟨rfl,rfl⟩))
              | (go_at_call 8;((with_reducible refine (N40.out _ H7.out.2.2.1).mono ?_);rintro e w8 ⟨s,hs,rfl,hg,hd⟩);have H8:=Lib.hid (show HeldI w w8 u3 L2∧w.grownBy w8 (some D)∧DiceOk w8 D∧RowV w8 g5 (⟨4,1+(r:Int),0,k,i2⟩ : Im).cs from ⟨H7.out.1.dice hg HDw.out,zae H7.out.2.1 hg,hd,H7.out.2.2.2.dice hg H5N.out.2.1⟩);have es:wrap64 (40*(id:Int)+(s:Int))=40*(id:Int)+(s:Int):=(by unfold wrap64;omega);have HVS:=Lib.hid hs;clear hs;clear hg hd)
              | ((with_reducible refine zak (i:=42) ?_);go_must (refine zaj rfl 3 (.tmp 42) (.tmp 36) rfl g5 3 (⟨4,1+(r:Int),0,k,i2⟩ : Im).cs (.int .i64 (zbE (m:Int))) rfl rfl H8.out.2.2.2 (by rw [Im.cs_len];decide) rfl rfl zcO ?_);intro w9 hw hr;have H11:=Lib.hid (show HeldI w w9 u3 L2∧w.grownBy w9 (some D)∧DiceOk w9 D∧RowV w9 g5 (⟨4,1+(r:Int),0,zbE (m:Int),i2⟩ : Im).cs from ⟨H8.out.1.wrote hw (HNB.out ),H8.out.2.1.wrote hw H5N.out.2.2,H8.out.2.2.1.wrote hw H5N.out.1,hr⟩);clear hw hr)
              | ((with_reducible refine zak (i:=43) ?_);go_must (refine zaj rfl 3 (.tmp 43) (.tmp 41) rfl g5 4 (⟨4,1+(r:Int),0,zbE (m:Int),i2⟩ : Im).cs (.int .i64 (40*(id:Int)+(s:Int))) rfl (by first | rfl | exact congrArg (Value.int .i64) es) H11.out.2.2.2 (by rw [Im.cs_len];decide) rfl rfl zcO ?_);intro w10 hw hr;have H12:=Lib.hid (show HeldI w w10 u3 L2∧w.grownBy w10 (some D)∧DiceOk w10 D∧RowV w10 g5 (⟨4,1+(r:Int),0,zbE (m:Int),40*(id:Int)+(s:Int)⟩ : Im).cs from ⟨H11.out.1.wrote hw (HNB.out ),H11.out.2.1.wrote hw H5N.out.2.2,H11.out.2.2.1.wrote hw H5N.out.1,hr⟩);clear hw hr)
              | ((with_reducible refine zaa (d:=47) ?_);refine zaJ rfl 93 (.tmp 5) rfl g5 rfl (⟨4,1+(r:Int),0,zbE (m:Int),40*(id:Int)+(s:Int)⟩ : Im).cs _ H12.out.2.2.2 Tryz.underlying93 rfl (by rw [Im.cs_len];exact zaT) ?_)
              | ((with_reducible refine zal (d:=48) ?_);go_must (refine zap rfl 55 93 1 _ rfl Tryz.underlying55 (pe1 rfl) (bsx (⟨4,1+(r:Int),0,zbE (m:Int),40*(id:Int)+(s:Int)⟩ : Im)) ?_);intro g9 wf hf hr;have H9:=Lib.hid (show HeldI w wf u3 L2∧w.grownBy wf (some D)∧DiceOk wf D∧RowV wf g5 (⟨4,1+(r:Int),0,zbE (m:Int),40*(id:Int)+(s:Int)⟩ : Im).cs∧RowV wf g9 (⟨4,1+(r:Int),0,zbE (m:Int),40*(id:Int)+(s:Int)⟩ : Im).cs from ⟨H12.out.1.below hf.bw,H12.out.2.1.on hf.bw,H12.out.2.2.1.below hf.bw,H12.out.2.2.2.fresh hf,hr⟩);clear hf hr)
              | ((with_reducible refine zaS (d:=49) ?_);have HO:=H9.out.1;unfold HeldI at HO;rw [HJ2.out] at HO;go_must (refine wpList_append_lies _ rfl (.tmp 46) (.tmp 48) 55 rfl w.heap.size 93 i0 _ 5 40 Tryz.underlying55 hi hz0 hz1 hz2 rfl (by decide) u3 j2 (Ics L2) rfl HO ⟨g9,0,none⟩ 1 1 (⟨4,1+(r:Int),0,zbE (m:Int),40*(id:Int)+(s:Int)⟩ : Im).cs rfl rfl (RowV.src H9.out.2.2.2.2) (Im.cs_one _) (by decide) (by unfold maxLen;omega) (by omega) H9.out.2.1.size _ rfl ?_);intro g10 c10 wg ho hg hl hltg;have H10:=Lib.hid (show HeldI w wg (.slice (some ⟨g10,0,none⟩) (j2+1) c10) (L2++[(⟨4,1+(r:Int),0,zbE (m:Int),40*(id:Int)+(s:Int)⟩ : Im)])∧w.grownBy wg (some D)∧DiceOk wg D∧(u3.ownBlock≠some g5→RowV wg g5 (⟨4,1+(r:Int),0,zbE (m:Int),40*(id:Int)+(s:Int)⟩ : Im).cs) from ⟨by unfold HeldI;rw [zdA,List.length_append,HJ2.out];exact ho,zaF H9.out.2.1 hg (fun k e=>(zas HO k e).1),H9.out.2.2.1.grown hg (fun k e=>Nat.lt_of_lt_of_le HDw.out (zas HO k e).1),fun hne=>H9.out.2.2.2.1.same (hg.block _ H9.out.2.2.2.1.lt fun e=>hne e.symm)⟩);have H10N:=Lib.hid (show u3.ownBlock≠some g5→g10≠g5 from fun hne e=>hl.elim (fun h=>hne (by rw [h,e])) (fun h=>by have:=H9.out.2.2.2.1.lt;omega));clear ho hg hl hltg HO))
             go_roundw
             case rel => exact ⟨id + 1, by omega, by first | rfl | go_num, Lib.hid ⟨L2 ++ [(⟨4, 1 + (r : Int), 0, zbE (m : Int), 40 * (id : Int) + (s : Int)⟩ : Im)], zbE (m : Int), 40 * (id : Int) + (s : Int), H10.out.1, H10.out.2.1, H10.out.2.2.1, H10.out.2.2.2 HNB.out, zdd HQ.out.2.2.2.2.1 (one_chip HVR.out.1 HVR.out.2 (by omega) (by have := HVS.out; omega) (point_el _)) (fun y hy => by
              rcases HQ.out.2.2.2.2.2.2.2.2.1 hl3 y hy with h | ⟨h,h2⟩
              · exact beh_p h
              · exact beh_i h (by show y.i < 40*(id:Int)+(s:Int);omega)) (fun y h=>by cases h),by rw [List.length_append];have:=HQ.out.2.2.2.2.2.1;simp only [List.length_singleton];omega,by rw [List.length_append];have:=HQ.out.2.2.2.2.2.1;simp only [List.length_singleton];omega,fun e=>by
              have e2:g10=g5:=by simpa [Value.ownBlock] using e
              exact H10N.out HNB.out e2,fun _ y hy=>by
              rcases List.mem_append.1 hy with hy | hy
              · rcases HQ.out.2.2.2.2.2.2.2.2.1 hl3 y hy with h | ⟨h, h2⟩
                · exact .inl h
                · exact .inr ⟨h,by omega⟩
              · rw [List.mem_singleton.1 hy]
                exact .inr ⟨rfl,by show 40*(id:Int)+(s:Int) < _;have:=HVS.out;omega⟩,fun h=>by omega⟩⟩
             case measure=>simp [intOf];omega
           · have d2 : decide ((id : Int) < 2) = false := by simp; omega
             go_wp2_with (first
              | (go_at_call 8;((with_reducible refine (N30.out _ HQ.out.2.2.1).mono ?_);rintro e w7 ⟨m,hm,rfl,hg,hd⟩);have H7:=Lib.hid (show HeldI w w7 u3 L2∧w.grownBy w7 (some D)∧DiceOk w7 D∧RowV w7 g5 (⟨4,1+(r:Int),0,k,i2⟩ : Im).cs from ⟨HQ4.out.1.dice hg HDw.out,zae HQ4.out.2.1 hg,hd,HQ4.out.2.2.2.dice hg H5N.out.2.1⟩);clear hm;clear hg hd)
              | (go_at_call 24;((with_reducible refine (zfX (m:Int) _).mono ?_);rintro e wp ⟨rfl,rfl⟩))
              | (go_at_call 8;((with_reducible refine (N40.out _ H7.out.2.2.1).mono ?_);rintro e w8 ⟨s,hs,rfl,hg,hd⟩);have H8:=Lib.hid (show HeldI w w8 u3 L2∧w.grownBy w8 (some D)∧DiceOk w8 D∧RowV w8 g5 (⟨4,1+(r:Int),0,k,i2⟩ : Im).cs from ⟨H7.out.1.dice hg HDw.out,zae H7.out.2.1 hg,hd,H7.out.2.2.2.dice hg H5N.out.2.1⟩);have es:wrap64 (40*(id:Int)+(s:Int))=40*(id:Int)+(s:Int):=(by unfold wrap64;omega);have HVS:=Lib.hid hs;clear hs;clear hg hd)
              | ((with_reducible refine zak (i:=42) ?_);go_must (refine zaj rfl 3 (.tmp 42) (.tmp 36) rfl g5 3 (⟨4,1+(r:Int),0,k,i2⟩ : Im).cs (.int .i64 (zbE (m:Int))) rfl rfl H8.out.2.2.2 (by rw [Im.cs_len];decide) rfl rfl zcO ?_);intro w9 hw hr;have H11:=Lib.hid (show HeldI w w9 u3 L2∧w.grownBy w9 (some D)∧DiceOk w9 D∧RowV w9 g5 (⟨4,1+(r:Int),0,zbE (m:Int),i2⟩ : Im).cs from ⟨H8.out.1.wrote hw (HNB.out ),H8.out.2.1.wrote hw H5N.out.2.2,H8.out.2.2.1.wrote hw H5N.out.1,hr⟩);clear hw hr)
              | ((with_reducible refine zak (i:=43) ?_);go_must (refine zaj rfl 3 (.tmp 43) (.tmp 41) rfl g5 4 (⟨4,1+(r:Int),0,zbE (m:Int),i2⟩ : Im).cs (.int .i64 (40*(id:Int)+(s:Int))) rfl (by first | rfl | exact congrArg (Value.int .i64) es) H11.out.2.2.2 (by rw [Im.cs_len];decide) rfl rfl zcO ?_);intro w10 hw hr;have H12:=Lib.hid (show HeldI w w10 u3 L2∧w.grownBy w10 (some D)∧DiceOk w10 D∧RowV w10 g5 (⟨4,1+(r:Int),0,zbE (m:Int),40*(id:Int)+(s:Int)⟩ : Im).cs from ⟨H11.out.1.wrote hw (HNB.out ),H11.out.2.1.wrote hw H5N.out.2.2,H11.out.2.2.1.wrote hw H5N.out.1,hr⟩);clear hw hr))
             go_roundw
             case rel => exact ⟨id + 1, by omega, by first | rfl | go_num, Lib.hid ⟨L2, zbE (m : Int), 40 * (id : Int) + (s : Int), H12.out.1, H12.out.2.1, H12.out.2.2.1, H12.out.2.2.2, HQ.out.2.2.2.2.1, by have := HQ.out.2.2.2.2.2.1; omega, HQ.out.2.2.2.2.2.2.1, HNB.out, fun h => by omega, fun _ => ⟨point_el _, by omega, by have := HVS.out; omega, fun y hy => by
              rcases HQ.out.2.2.2.2.2.2.2.2.1 hl3 y hy with h | ⟨h,h2⟩
              · exact .inl h
              · exact .inr ⟨h,by omega⟩⟩⟩⟩
             case measure=>simp [intOf];omega
         · obtain rfl : id = 3 := by omega
           have d3:decide (((3:Nat):Int) < 3)=false:=by decide
           obtain ⟨hk,h80,h120,hall⟩:=HQ.out.2.2.2.2.2.2.2.2.2 rfl
           have HF:=Lib.hid (show _∧_∧_∧_ from ⟨hk,h80,h120,hall⟩)
           have HQ4:=Lib.hid (show HeldI w wr u3 L2∧w.grownBy wr (some D)∧DiceOk wr D∧RowV wr g5 (⟨4,1+(r:Int),0,k,i2⟩ : Im).cs from ⟨HQ.out.1,HQ.out.2.1,HQ.out.2.2.1,HQ.out.2.2.2.1⟩)
           clear hk h80 h120 hall
           go_wp2_with (first
            | ((with_reducible refine zaa (d:=51) ?_);refine zaJ rfl 93 (.tmp 5) rfl g5 rfl (⟨4,1+(r:Int),0,k,i2⟩ : Im).cs _ HQ4.out.2.2.2 Tryz.underlying93 rfl (by rw [Im.cs_len];exact zaT) ?_)
            | ((with_reducible refine zal (d:=52) ?_);go_must (refine zap rfl 55 93 1 _ rfl Tryz.underlying55 (pe1 rfl) (bsx (⟨4,1+(r:Int),0,k,i2⟩ : Im)) ?_);intro g9 wf hf hr;have H9:=Lib.hid (show HeldI w wf u3 L2∧w.grownBy wf (some D)∧DiceOk wf D∧RowV wf g5 (⟨4,1+(r:Int),0,k,i2⟩ : Im).cs∧RowV wf g9 (⟨4,1+(r:Int),0,k,i2⟩ : Im).cs from ⟨HQ4.out.1.below hf.bw,HQ4.out.2.1.on hf.bw,HQ4.out.2.2.1.below hf.bw,HQ4.out.2.2.2.fresh hf,hr⟩);clear hf hr)
            | ((with_reducible refine zaS (d:=53) ?_);have HO:=H9.out.1;unfold HeldI at HO;rw [HJ2.out] at HO;go_must (refine wpList_append_lies _ rfl (.tmp 50) (.tmp 52) 55 rfl w.heap.size 93 i0 _ 5 40 Tryz.underlying55 hi hz0 hz1 hz2 rfl (by decide) u3 j2 (Ics L2) rfl HO ⟨g9,0,none⟩ 1 1 (⟨4,1+(r:Int),0,k,i2⟩ : Im).cs rfl rfl (RowV.src H9.out.2.2.2.2) (Im.cs_one _) (by decide) (by unfold maxLen;omega) (by omega) H9.out.2.1.size _ rfl ?_);intro g10 c10 wg ho hg hl hltg;have H10:=Lib.hid (show HeldI w wg (.slice (some ⟨g10,0,none⟩) (j2+1) c10) (L2++[(⟨4,1+(r:Int),0,k,i2⟩ : Im)])∧w.grownBy wg (some D)∧DiceOk wg D∧(u3.ownBlock≠some g5→RowV wg g5 (⟨4,1+(r:Int),0,k,i2⟩ : Im).cs) from ⟨by unfold HeldI;rw [zdA,List.length_append,HJ2.out];exact ho,zaF H9.out.2.1 hg (fun k e=>(zas HO k e).1),H9.out.2.2.1.grown hg (fun k e=>Nat.lt_of_lt_of_le HDw.out (zas HO k e).1),fun hne=>H9.out.2.2.2.1.same (hg.block _ H9.out.2.2.2.1.lt fun e=>hne e.symm)⟩);have H10N:=Lib.hid (show u3.ownBlock≠some g5→g10≠g5 from fun hne e=>hl.elim (fun h=>hne (by rw [h,e])) (fun h=>by have:=H9.out.2.2.2.1.lt;omega));clear ho hg hl hltg HO))
           go_roundw
           case rel => exact ⟨5, by omega, by omega, by first | rfl | go_num, Lib.hid ⟨L2 ++ [(⟨4, 1 + (r : Int), 0, k, i2⟩ : Im)], H10.out.1, zdd HQ.out.2.2.2.2.1 (one_chip HVR.out.1 HVR.out.2 (by have := HF.out.2.1; omega) (by have := HF.out.2.2.1; omega) HF.out.1) (fun y hy => by
            rcases HF.out.2.2.2 y hy with h | ⟨h,h2⟩
            · exact beh_p h
            · exact beh_i h (by have:=HF.out.2.1;show y.i < i2;omega)) (fun y h=>by cases h),fun y hy=>by
            rcases List.mem_append.1 hy with hy | hy
            · rcases HF.out.2.2.2 y hy with h | ⟨h, h2⟩
              · exact Int.lt_trans h (by decide)
              · rw [h];decide
            · rw [List.mem_singleton.1 hy];show (4:Int) < 5;decide,by have h:=HR.out.2.2.2.1;have h2:=HQ.out.2.2.2.2.2.2.1;have h3:=HJL.out;rw [List.length_append];simp only [List.length_singleton,Int.natCast_add];omega,H10.out.2.1,H10.out.2.2.1⟩⟩
           case measure=>simp [intOf]
    · go_wp2_with (first
      | (go_at_call 41;((with_reducible refine (HON.out _ HR.out.2.2.2.2.2).mono ?_);rintro e w1 ⟨q1,rfl,hg,hd⟩);have H1:=Lib.hid (show HeldI w w1 u3 L∧w.grownBy w1 (some D)∧DiceOk w1 D from ⟨HR.out.1.dice hg HDw.out,zae HR.out.2.2.2.2.1 hg,hd⟩);clear hg hd;rcases q1 with _ | _)
      | (go_at_call 8;((with_reducible refine (N255.out _ H1.out.2.2).mono ?_);rintro e w2 ⟨r,hr,rfl,hg,hd⟩);have H2:=Lib.hid (show HeldI w w2 u3 L∧w.grownBy w2 (some D)∧DiceOk w2 D from ⟨H1.out.1.dice hg HDw.out,zae H1.out.2.1 hg,hd⟩);have er:wrap64 (1+(r:Int))=1+(r:Int):=(by unfold wrap64;omega);have HVR:=Lib.hid (show 1≤1+(r:Int)∧1+(r:Int)≤255 from (by omega));clear hr;clear hg hd)
      | ((with_reducible refine zal (d:=18) ?_);go_must (refine zcv rfl 93 _ rfl (peb2 rfl rfl) (bldI2g _ _) ?_))
      | ((with_reducible refine zaG (d:=5) ?_);refine zam (op:=⟨some 5,_,_,_,_,_⟩) rfl 93 rfl zerX zcp ?_;intro g5 w3 hf hr;have H5N:=Lib.hid (show D < g5∧g5≠D∧w.heap.size≤g5 from (by have h1:=hf.1;have h2:=H2.out.2.1.size;have h3:=HDw.out;omega));have HNB:=Lib.hid (show u3.ownBlock≠some g5 from fun e=>(by have h1:=(zas H2.out.1 g5 e).2;have h2:=hf.1;omega));have H3:=Lib.hid (show HeldI w w3 u3 L∧w.grownBy w3 (some D)∧DiceOk w3 D∧RowV w3 g5 zerX from ⟨H2.out.1.below hf.bw,H2.out.2.1.on hf.bw,H2.out.2.2.below hf.bw,hr⟩);clear hf hr)
      | ((with_reducible refine zak (i:=5) ?_);refine zan rfl 93 (.tmp 5) (.tmp 18) rfl g5 zerX (⟨5,1+(r:Int),0,0,0⟩ : Im).cs rfl (by first | rfl | exact congrArg (fun z:Int=>Value.agg (⟨5,z,0,0,0⟩ : Im).cs.toArray) er) H3.out.2.2.2 rfl (Im.cs_one _) zaT ?_;intro w4 hw hr;have H4:=Lib.hid (show HeldI w w4 u3 L∧w.grownBy w4 (some D)∧DiceOk w4 D∧RowV w4 g5 (⟨5,1+(r:Int),0,0,0⟩ : Im).cs from ⟨H3.out.1.wrote hw HNB.out,H3.out.2.1.wrote hw H5N.out.2.2,H3.out.2.2.1.wrote hw H5N.out.1,hr⟩);clear hw hr)
      | ((with_reducible refine zaa (d:=51) ?_);refine zaJ rfl 93 (.tmp 5) rfl g5 rfl (⟨5,1+(r:Int),0,0,0⟩ : Im).cs _ H4.out.2.2.2 Tryz.underlying93 rfl (by rw [Im.cs_len];exact zaT) ?_)
      | ((with_reducible refine zal (d:=52) ?_);go_must (refine zap rfl 55 93 1 _ rfl Tryz.underlying55 (pe1 rfl) (bsx (⟨5,1+(r:Int),0,0,0⟩ : Im)) ?_);intro g9 wf hf hr;have H9:=Lib.hid (show HeldI w wf u3 L∧w.grownBy wf (some D)∧DiceOk wf D∧RowV wf g5 (⟨5,1+(r:Int),0,0,0⟩ : Im).cs∧RowV wf g9 (⟨5,1+(r:Int),0,0,0⟩ : Im).cs from ⟨H4.out.1.below hf.bw,H4.out.2.1.on hf.bw,H4.out.2.2.1.below hf.bw,H4.out.2.2.2.fresh hf,hr⟩);clear hf hr)
      | ((with_reducible refine zaS (d:=53) ?_);have HO:=H9.out.1;unfold HeldI at HO;rw [HJL.out] at HO;go_must (refine wpList_append_lies _ rfl (.tmp 50) (.tmp 52) 55 rfl w.heap.size 93 i0 _ 5 40 Tryz.underlying55 hi hz0 hz1 hz2 rfl (by decide) u3 jl (Ics L) rfl HO ⟨g9,0,none⟩ 1 1 (⟨5,1+(r:Int),0,0,0⟩ : Im).cs rfl rfl (RowV.src H9.out.2.2.2.2) (Im.cs_one _) (by decide) (by unfold maxLen;omega) (by omega) H9.out.2.1.size _ rfl ?_);intro g10 c10 wg ho hg hl hltg;have H10:=Lib.hid (show HeldI w wg (.slice (some ⟨g10,0,none⟩) (jl+1) c10) (L++[(⟨5,1+(r:Int),0,0,0⟩ : Im)])∧w.grownBy wg (some D)∧DiceOk wg D∧(u3.ownBlock≠some g5→RowV wg g5 (⟨5,1+(r:Int),0,0,0⟩ : Im).cs) from ⟨by unfold HeldI;rw [zdA,List.length_append,HJL.out];exact ho,zaF H9.out.2.1 hg (fun k e=>(zas HO k e).1),H9.out.2.2.1.grown hg (fun k e=>Nat.lt_of_lt_of_le HDw.out (zas HO k e).1),fun hne=>H9.out.2.2.2.1.same (hg.block _ H9.out.2.2.2.1.lt fun e=>hne e.symm)⟩);have H10N:=Lib.hid (show u3.ownBlock≠some g5→g10≠g5 from fun hne e=>hl.elim (fun h=>hne (by rw [h,e])) (fun h=>by have:=H9.out.2.2.2.1.lt;omega));clear ho hg hl hltg HO))
      · go_roundw
        case rel=>exact ⟨6,by omega,by omega,by first | rfl | go_num,Lib.hid ⟨L,H1.out.1,HR.out.2.1,fun y hy=>Int.lt_trans (HR.out.2.2.1 y hy) (by decide),by have h:=HR.out.2.2.2.1;omega,H1.out.2.1,H1.out.2.2⟩⟩
        case measure=>simp [intOf]
      · go_roundw
        case rel => exact ⟨6, by omega, by omega, by first | rfl | go_num, Lib.hid ⟨L ++ [(⟨5, 1 + (r : Int), 0, 0, 0⟩ : Im)], H10.out.1, zdd HR.out.2.1 (one_plain (by decide) HVR.out.1 HVR.out.2) (fun y hy => beh_p (HR.out.2.2.1 y hy)) (fun y h => by cases h), fun y hy => by
         rcases List.mem_append.1 hy with hy | hy
         · exact Int.lt_trans (HR.out.2.2.1 y hy) (by decide)
         · rw [List.mem_singleton.1 hy];show (5:Int) < 5+1;decide,by have h:=HR.out.2.2.2.1;rw [List.length_append];simp only [List.length_singleton,Int.natCast_add];omega,H10.out.2.1,H10.out.2.2.1⟩⟩
        case measure=>simp [intOf]
    · go_wp2_with (first
      | (go_at_call 41;((with_reducible refine (HON.out _ HR.out.2.2.2.2.2).mono ?_);rintro e w1 ⟨q1,rfl,hg,hd⟩);have H1:=Lib.hid (show HeldI w w1 u3 L∧w.grownBy w1 (some D)∧DiceOk w1 D from ⟨HR.out.1.dice hg HDw.out,zae HR.out.2.2.2.2.1 hg,hd⟩);clear hg hd;rcases q1 with _ | _)
      | (go_at_call 8;((with_reducible refine (N255.out _ H1.out.2.2).mono ?_);rintro e w2 ⟨r,hr,rfl,hg,hd⟩);have H2:=Lib.hid (show HeldI w w2 u3 L∧w.grownBy w2 (some D)∧DiceOk w2 D from ⟨H1.out.1.dice hg HDw.out,zae H1.out.2.1 hg,hd⟩);have er:wrap64 (1+(r:Int))=1+(r:Int):=(by unfold wrap64;omega);have HVR:=Lib.hid (show 1≤1+(r:Int)∧1+(r:Int)≤255 from (by omega));clear hr;clear hg hd)
      | ((with_reducible refine zal (d:=18) ?_);go_must (refine zcv rfl 93 _ rfl (peb2 rfl rfl) (bldI2g _ _) ?_))
      | ((with_reducible refine zaG (d:=5) ?_);refine zam (op:=⟨some 5,_,_,_,_,_⟩) rfl 93 rfl zerX zcp ?_;intro g5 w3 hf hr;have H5N:=Lib.hid (show D < g5∧g5≠D∧w.heap.size≤g5 from (by have h1:=hf.1;have h2:=H2.out.2.1.size;have h3:=HDw.out;omega));have HNB:=Lib.hid (show u3.ownBlock≠some g5 from fun e=>(by have h1:=(zas H2.out.1 g5 e).2;have h2:=hf.1;omega));have H3:=Lib.hid (show HeldI w w3 u3 L∧w.grownBy w3 (some D)∧DiceOk w3 D∧RowV w3 g5 zerX from ⟨H2.out.1.below hf.bw,H2.out.2.1.on hf.bw,H2.out.2.2.below hf.bw,hr⟩);clear hf hr)
      | ((with_reducible refine zak (i:=5) ?_);refine zan rfl 93 (.tmp 5) (.tmp 18) rfl g5 zerX (⟨6,1+(r:Int),0,0,0⟩ : Im).cs rfl (by first | rfl | exact congrArg (fun z:Int=>Value.agg (⟨6,z,0,0,0⟩ : Im).cs.toArray) er) H3.out.2.2.2 rfl (Im.cs_one _) zaT ?_;intro w4 hw hr;have H4:=Lib.hid (show HeldI w w4 u3 L∧w.grownBy w4 (some D)∧DiceOk w4 D∧RowV w4 g5 (⟨6,1+(r:Int),0,0,0⟩ : Im).cs from ⟨H3.out.1.wrote hw HNB.out,H3.out.2.1.wrote hw H5N.out.2.2,H3.out.2.2.1.wrote hw H5N.out.1,hr⟩);clear hw hr)
      | ((with_reducible refine zaa (d:=51) ?_);refine zaJ rfl 93 (.tmp 5) rfl g5 rfl (⟨6,1+(r:Int),0,0,0⟩ : Im).cs _ H4.out.2.2.2 Tryz.underlying93 rfl (by rw [Im.cs_len];exact zaT) ?_)
      | ((with_reducible refine zal (d:=52) ?_);go_must (refine zap rfl 55 93 1 _ rfl Tryz.underlying55 (pe1 rfl) (bsx (⟨6,1+(r:Int),0,0,0⟩ : Im)) ?_);intro g9 wf hf hr;have H9:=Lib.hid (show HeldI w wf u3 L∧w.grownBy wf (some D)∧DiceOk wf D∧RowV wf g5 (⟨6,1+(r:Int),0,0,0⟩ : Im).cs∧RowV wf g9 (⟨6,1+(r:Int),0,0,0⟩ : Im).cs from ⟨H4.out.1.below hf.bw,H4.out.2.1.on hf.bw,H4.out.2.2.1.below hf.bw,H4.out.2.2.2.fresh hf,hr⟩);clear hf hr)
      | ((with_reducible refine zaS (d:=53) ?_);have HO:=H9.out.1;unfold HeldI at HO;rw [HJL.out] at HO;go_must (refine wpList_append_lies _ rfl (.tmp 50) (.tmp 52) 55 rfl w.heap.size 93 i0 _ 5 40 Tryz.underlying55 hi hz0 hz1 hz2 rfl (by decide) u3 jl (Ics L) rfl HO ⟨g9,0,none⟩ 1 1 (⟨6,1+(r:Int),0,0,0⟩ : Im).cs rfl rfl (RowV.src H9.out.2.2.2.2) (Im.cs_one _) (by decide) (by unfold maxLen;omega) (by omega) H9.out.2.1.size _ rfl ?_);intro g10 c10 wg ho hg hl hltg;have H10:=Lib.hid (show HeldI w wg (.slice (some ⟨g10,0,none⟩) (jl+1) c10) (L++[(⟨6,1+(r:Int),0,0,0⟩ : Im)])∧w.grownBy wg (some D)∧DiceOk wg D∧(u3.ownBlock≠some g5→RowV wg g5 (⟨6,1+(r:Int),0,0,0⟩ : Im).cs) from ⟨by unfold HeldI;rw [zdA,List.length_append,HJL.out];exact ho,zaF H9.out.2.1 hg (fun k e=>(zas HO k e).1),H9.out.2.2.1.grown hg (fun k e=>Nat.lt_of_lt_of_le HDw.out (zas HO k e).1),fun hne=>H9.out.2.2.2.1.same (hg.block _ H9.out.2.2.2.1.lt fun e=>hne e.symm)⟩);have H10N:=Lib.hid (show u3.ownBlock≠some g5→g10≠g5 from fun hne e=>hl.elim (fun h=>hne (by rw [h,e])) (fun h=>by have:=H9.out.2.2.2.1.lt;omega));clear ho hg hl hltg HO))
      · go_roundw
        case rel=>exact ⟨7,by omega,by omega,by first | rfl | go_num,Lib.hid ⟨L,H1.out.1,HR.out.2.1,fun y hy=>Int.lt_trans (HR.out.2.2.1 y hy) (by decide),by have h:=HR.out.2.2.2.1;omega,H1.out.2.1,H1.out.2.2⟩⟩
        case measure=>simp [intOf]
      · go_roundw
        case rel => exact ⟨7, by omega, by omega, by first | rfl | go_num, Lib.hid ⟨L ++ [(⟨6, 1 + (r : Int), 0, 0, 0⟩ : Im)], H10.out.1, zdd HR.out.2.1 (one_plain (by decide) HVR.out.1 HVR.out.2) (fun y hy => beh_p (HR.out.2.2.1 y hy)) (fun y h => by cases h), fun y hy => by
         rcases List.mem_append.1 hy with hy | hy
         · exact Int.lt_trans (HR.out.2.2.1 y hy) (by decide)
         · rw [List.mem_singleton.1 hy];show (6:Int) < 6+1;decide,by have h:=HR.out.2.2.2.1;rw [List.length_append];simp only [List.length_singleton,Int.natCast_add];omega,H10.out.2.1,H10.out.2.2.1⟩⟩
        case measure=>simp [intOf]
  · obtain rfl : p = 7 := by omega
    have HE := Lib.hid (show InfsIs w D (.returned u3) wr from ⟨u3, L, rfl, by
     unfold vaE
     have h:=HR.out.2.2.2.1
     rw [if_neg (by omega)]
     exact HR.out.2.1,by have h:=HR.out.2.2.2.1;omega,HR.out.1,HR.out.2.2.2.2.1,HR.out.2.2.2.2.2⟩)
    clear HR HJL hlt hp2 hp7
    go_wp2
    go_ret
    exact HE.out
end Go.Proofs.YtnlhbknajdpnbaaGreatDoor
