/-
  What is proved here: which rights and conditions there are, and the first error of a file behind others, by the program.
-/
import Derived.Test.YtkdlfbggddllhaaPG3
import Derived.Test.YtkdlfbggddllhaaPG0
import Derived.Test.YtkdlfbggddllhaaPG1
import Derived.Laws.AppendOwnNone
import Derived.Deep.AppendLies
import Derived.Test.YtkdlfbggddllhaaRows
import Derived.Test.YtkdlfbggddllhaaPG13
import Derived.Test.YtkdlfbggddllhaaPG14
import Derived.Test.YtkdlfbggddllhaaPG15
import Derived.Test.YtkdlfbggddllhaaPG16
import Derived.Test.YtkdlfbggddllhaaPG17
import Derived.Test.YtkdlfbggddllhaaPG18
import Derived.Test.YtkdlfbggddllhaaPG9
import Derived.BigQuiet
import Derived.Lib.Strings
import Derived.Lib.Slices
import Derived.Lib.Small
import Derived.Lib.Walk
import Derived.Lib.BitFns
import Derived.Deep.RegionWith
import Derived.Laws.ResultCell
import Derived.Laws.Rows
import Derived.ProofKit
import Derived.OpenShut
import Derived.ShutString
import Derived.ChangeOld
import Derived.SizedLaws
import Derived.Deep.CutRange
import Derived.Deep.RegionLaw
import Derived.Lib.AppendZerosOnto
import Derived.Deep.DeepMust
set_option linter.unusedVariables false
set_option linter.unusedSimpArgs false
namespace Go.Proofs.Ytkdlfbggddllhaa
open Go.RowKit
set_option maxRecDepth 8000
theorem zaB:(Try.prog.info? 60).map (·.zero)=some (some (.agg zerF.cs.toArray)):=by kernel_rfl
theorem zaq:(Try.prog.info? 60).map (·.size)=some 5:=by kernel_rfl
theorem rg_cases (n : Int) : (decide (0 ≤ n) = false ∧ rgB n = false) ∨ (decide (0 ≤ n) = true ∧ decide (n ≤ 15) = false ∧ rgB n = false) ∨ (decide (0 ≤ n) = true ∧ decide (n ≤ 15) = true ∧ rgB n = true) := by
 unfold rgB
 by_cases h1:0≤n
 · by_cases h2:n≤15 <;> simp [h1,h2]
 · simp [h1]
theorem p_isright (n : Int) (w : World) : Calls Try.prog 43 #[.int .i64 n] w fun e w' => e = .returned (.bool (rgB n)) ∧ w = w' := by
 rcases rg_cases n with ⟨h1,hv⟩ | ⟨h1,h2,hv⟩ | ⟨h1,h2,hv⟩
 all_goals
  rw [hv]
  clear hv
  go_enter Try.func43,Try.ntmps43
  go_wp2
  go_ret
  exact ⟨rfl,rfl⟩
theorem cnd_cases (lv rt : Int) : (lv = 3 ∧ cndB lv rt = rgB rt) ∨ ((lv == 3) = false ∧ ((decide (0 ≤ lv) = false ∧ cndB lv rt = false) ∨ (decide (0 ≤ lv) = true ∧ decide (lv ≤ 4) = false ∧ cndB lv rt = false) ∨ (decide (0 ≤ lv) = true ∧ decide (lv ≤ 4) = true ∧ (rt == 0) = false ∧ cndB lv rt = false) ∨ (decide (0 ≤ lv) = true ∧ decide (lv ≤ 4) = true ∧ (rt == 0) = true ∧ cndB lv rt = true))) := by
 unfold cndB
 by_cases h:lv=3
 · left;exact ⟨h,by rw [if_pos h]⟩
 · right
   rw [if_neg h]
   refine ⟨by simpa using h,?_⟩
   by_cases h1:0≤lv
   · by_cases h2 : lv ≤ 4
     · by_cases h3:rt=0 <;> simp [h1,h2,h3]
     · simp [h1,h2]
   · simp [h1]
set_option maxHeartbeats 1600000 in
theorem p_iscond (lv rt : Int) (w : World) : Calls Try.prog 55 #[.agg #[.int .i64 lv, .int .i64 rt]] w fun e w' => e = .returned (.bool (cndB lv rt)) ∧ Below w.heap.size w w' := by
 have HP:=Lib.hid (fun w=>p_isright rt w)
 rcases cnd_cases lv rt with ⟨rfl,hv⟩ | ⟨h0,⟨h1,hv⟩ | ⟨h1,h2,hv⟩ | ⟨h1,h2,h3,hv⟩ | ⟨h1,h2,h3,hv⟩⟩
 · rw [hv]
   obtain ⟨q,hq⟩ : ∃z,rgB rt=z:=⟨_,rfl⟩
   rw [hq] at HP ⊢
   clear hv hq
   go_enter Try.func55,Try.ntmps55
   go_wp2_with (first
    | (go_at_call 43;((with_reducible refine (HP.out _).mono ?_);rintro e w' ⟨rfl,rfl⟩)))
   go_ret
   exact ⟨rfl,zay _ _⟩
 all_goals
  rw [hv]
  clear hv HP
  go_enter Try.func55,Try.ntmps55
  go_wp2
  go_ret
  exact ⟨rfl,zay _ _⟩
theorem tak_cases (y x : Fw) : ((x.id == y.id) = true ∧ takB y x = true) ∨ ((x.id == y.id) = false ∧ (x.sh != 0) = false ∧ takB y x = false) ∨ ((x.id == y.id) = false ∧ (x.sh != 0) = true ∧ (x.sh == y.sh) = false ∧ takB y x = false) ∨ ((x.id == y.id) = false ∧ (x.sh != 0) = true ∧ (x.sh == y.sh) = true ∧ takB y x = true) := by
 unfold takB
 by_cases h1:x.id=y.id
 · simp [h1]
 · by_cases h2 : x.sh = 0
   · simp [h1,h2]
   · by_cases h3 : x.sh = y.sh <;> simp [h1, h2, h3]
     all_goals omega
set_option maxHeartbeats 1600000 in
theorem p_taken (y x : Fw) (g : Nat) (w : World) (hr : RowV w g y.cs) : Calls Try.prog 56 #[.agg x.cs.toArray, .pointer (some ⟨g, 0, none⟩)] w fun e w' => e = .returned (.bool (takB y x)) ∧ Below w.heap.size w w' := by
 have hc:=tak_cases y x
 have c0:w.cell? ⟨g,0,none⟩=some (.int .i64 y.id):=hr.cell 0
 have c1:w.cell? ⟨g,1,none⟩=some (.int .i64 y.sh):=hr.cell 1
 have hlt:=hr.lt
 clear hr
 obtain ⟨yi,hyi⟩ : ∃z,y.id=z:=⟨_,rfl⟩
 obtain ⟨ys,hys⟩ : ∃z,y.sh=z:=⟨_,rfl⟩
 obtain ⟨q,hq⟩ : ∃z,takB y x=z:=⟨_,rfl⟩
 rw [hq] at hc ⊢
 rw [hyi] at hc c0
 rw [hys] at hc c1
 have ha:x.cs.toArray=#[.int .i64 x.id,.int .i64 x.sh,.slice x.A x.d.length x.c,.int .i64 x.lv,.int .i64 x.rt]:=rfl
 rw [ha]
 obtain ⟨i,s,A,c,lv,rt,d⟩:=x
 simp only at hc ⊢
 obtain ⟨n,hn⟩ : ∃z,d.length=z:=⟨_,rfl⟩
 rw [hn]
 clear ha hyi hys hq hn
 rcases hc with ⟨h1,rfl⟩ | ⟨h1,h2,rfl⟩ | ⟨h1,h2,h3,rfl⟩ | ⟨h1,h2,h3,rfl⟩
 all_goals
  go_enter Try.func56,Try.ntmps56
  go_wp2
  go_ret
  exact ⟨rfl,zay _ _⟩
theorem ix_fw (b off n c j : Nat) (hlt : j < n) (w : World) : (Instr.indexAt 22 (.slice (some ⟨b, off, none⟩) n c) (.int .i64 (j : Int))).run Try.prog w = .ok (.pointer (some ⟨b, off + j * 5, none⟩)) w := by
 have h0:(j:Int) < (n:Int):=by omega
 have h1:(0:Int)≤(j:Int):=by omega
 have e:Try.prog.cellsOf 60=5:=by kernel_rfl
 simp [go_sem,Addr.add,h0,h1,e]
 first | done | (intro h;exact h.symm)
set_option maxHeartbeats 3200000 in
theorem p_ixT (f : Fw → Bool) (g : Nat) (L : List Fw) (n : Nat) (hn : L.length = n) (hm : n ≤ 1000000) (A : Option Addr) (c : Nat) (w : World) (hs : SeesU w (· < w.heap.size) A c L)
 (hc:∀(z:Fw) (u:World),z∈L→Below w.heap.size w u→Calls Try.prog 56 #[.agg z.cs.toArray,.pointer (some ⟨g,0,none⟩)] u fun e u'=>e=.returned (.bool (f z))∧Below u.heap.size u u') :
 Calls Try.prog 51 #[.slice A n c,.func (.func 56) #[] #[.pointer (some ⟨g,0,none⟩)]] w fun e w'=>e=.returned (.int .i64 (fstP f 0 L))∧Below w.heap.size w w':=by
 have HS:=Lib.hid (show _∧_ from ⟨hs,hn⟩)
 have HC:=Lib.hid hc
 obtain ⟨R,hR⟩ : ∃z,fstP f 0 L=z:=⟨_,rfl⟩
 rw [hR]
 have HR:=Lib.hid hR
 have HB:=Lib.hid (Below.refl w.heap.size w)
 clear hs hn hR hc
 go_enter Try.func51,Try.ntmps51
 go_wp2
 go_loopw [8] (fun i wr=>∃(j:Nat),j≤n∧i=.int .i64 (j:Int)∧Hid (Below w.heap.size w wr∧fstP f j (L.drop j)=R)) (fun i _=>n - (intOf i).toNat)
 case atStart=>exact ⟨0,by omega,rfl,Lib.hid ⟨HB.out,HR.out⟩⟩
 case round =>
  obtain ⟨j,hj,rfl,HQ⟩:=hrel
  by_cases hlt:j < n
  · have dj : decide ((j : Int) < (n : Int)) = true := by simp; omega
    obtain ⟨x,hx⟩ : ∃x,L[j]? = some x:=⟨_,List.getElem?_eq_getElem (by rw [HS.out.2];exact hlt)⟩
    obtain ⟨b,off,rfl,hb,hr⟩:=fw_at (HS.out.1.on HQ.out.1) hx
    have hcl:=HC.out x wr (List.mem_of_getElem? hx) HQ.out.1
    have hst:=(fstP_at (f:=f) hx).symm.trans HQ.out.2
    obtain ⟨us,hus⟩ : ∃us,x.cs=us:=⟨_,rfl⟩
    have h5:us.length=5:=by rw [←hus];rfl
    obtain ⟨q,hq⟩ : ∃z,f x=z:=⟨_,rfl⟩
    rw [hus] at hr hcl
    rw [hq] at hcl hst
    have HU:=Lib.hid (show _∧_ from ⟨hr,h5⟩)
    have HCL:=Lib.hid hcl
    have HST:=Lib.hid (show (q=true→(j:Int)=R)∧(q=false→fstP f (j+1) (L.drop (j+1))=R) from ⟨fun e=>by rw [e] at hst;exact hst,fun e=>by rw [e] at hst;exact hst⟩)
    have ixk:=fun w=>ix_fw b off n c j hlt w
    clear hx hb hr hus hcl hst h5 hq
    rcases q with _ | _
    · go_wp2_with (first
       | ((with_reducible refine zac (d:=15) ?_);refine wpList_load_mid rfl 60 (.tmp 14) rfl b (off+j*5) rfl us _ HU.out.1 Try.underlying60 rfl (by rw [HU.out.2];exact zaq) ?_)
       | (go_at_call 56;((with_reducible refine HCL.out.mono ?_);rintro e w9 ⟨rfl,h9⟩);have H9:=Lib.hid (zad HQ.out.1 h9);clear h9))
      go_roundw
      case rel=>exact ⟨j+1,by omega,by first | rfl | go_num,Lib.hid ⟨H9.out,HST.out.2 (by first | rfl | trivial)⟩⟩
      case measure=>simp [intOf];omega
    · go_wp2_with (first
       | ((with_reducible refine zac (d:=15) ?_);refine wpList_load_mid rfl 60 (.tmp 14) rfl b (off+j*5) rfl us _ HU.out.1 Try.underlying60 rfl (by rw [HU.out.2];exact zaq) ?_)
       | (go_at_call 56;((with_reducible refine HCL.out.mono ?_);rintro e w9 ⟨rfl,h9⟩);have H9:=Lib.hid (zad HQ.out.1 h9);clear h9))
      go_ret
      exact ⟨by rw [←HST.out.1 (by first | rfl | trivial)];rfl,H9.out⟩
  · obtain rfl : j = n := by omega
    have dj:decide ((j:Int) < (j:Int))=false:=by simp
    have HN := Lib.hid (show R = -1 from by
     have h:=HQ.out.2
     rw [List.drop_of_length_le (by rw [HS.out.2];exact Nat.le_refl _)] at h
     exact h.symm)
    go_wp2
    go_ret
    exact ⟨by rw [HN.out];rfl,HQ.out.1⟩
theorem p_cfT (f : Fw → Bool) (g : Nat) (L : List Fw) (n : Nat) (hn : L.length = n) (hm : n ≤ 1000000) (A : Option Addr) (c : Nat) (w : World) (hs : SeesU w (· < w.heap.size) A c L)
 (hc:∀(z:Fw) (u:World),z∈L→Below w.heap.size w u→Calls Try.prog 56 #[.agg z.cs.toArray,.pointer (some ⟨g,0,none⟩)] u fun e u'=>e=.returned (.bool (f z))∧Below u.heap.size u u') :
 Calls Try.prog 57 #[.slice A n c,.func (.func 56) #[] #[.pointer (some ⟨g,0,none⟩)]] w fun e w'=>e=.returned (.bool (L.any f))∧Below w.heap.size w w':=by
 have H:=Lib.hid (p_ixT f g L n hn hm A c w hs hc)
 have hv:decide (0≤fstP f 0 L)=L.any f:=fstP_any L 0
 obtain ⟨z,hz⟩ : ∃z,fstP f 0 L=z:=⟨_,rfl⟩
 obtain ⟨q,hq⟩ : ∃z,L.any f=z:=⟨_,rfl⟩
 rw [hz] at H hv
 rw [hq] at hv ⊢
 clear hs hn hm hc hz hq
 go_enter Try.func57,Try.ntmps57
 go_wp2_with (go_at_call 51;((with_reducible refine H.out.mono ?_);rintro e w9 ⟨rfl,h9⟩);have H9:=Lib.hid h9;clear h9)
 go_ret
 exact ⟨rfl,H9.out⟩
section
variable {P:Program} {ops:Array Oper} {rest:List Oper} {op:Oper} {a:Act} {w:World} {Q:Exit→Act→World→Prop}
theorem zbh (hw : Region.wanted op (yielded ops a.tmps) = true) (ty : TypeId) (x : Operand) (ho : op.op = .load ty x) (g k : Nat) (hx : a.eval x = .pointer (some ⟨g, k, none⟩)) (vs : List Value) (d : TypeDesc)
 (h:w.rangeAt g k vs) (hu:P.underlying ty=some d) (hd:d.isRow=true) (hi:(P.info? ty).map (·.size)=some vs.length)
 (hK:wpList P ops Q rest (a.put op.dst (.agg vs.toArray)) w):wpList P ops Q (op::rest) a w:=by
 refine wpList_step fun K hK2=>?_
 rw [if_pos hw]
 exact wp_load_mid ty x ho g k hx vs d h hu hd hi (hK2 _ _ hK)
end
def cnV (lv rt:Int):List Value:=[.int .i64 lv,.int .i64 rt]
theorem zat:(Try.prog.info? 54).map (·.size)=some 2:=by kernel_rfl
theorem one_cases (L : List Fw) (x : Fw) (n : Nat) (hn : x.d.length = n) :
 (decide (x.id < 1)=true∧oneF L x=3)∨(decide (x.id < 1)=false∧decide (65535 < x.id)=true∧oneF L x=3)∨(decide (x.id < 1)=false∧decide (65535 < x.id)=false∧decide (x.sh < 0)=true∧oneF L x=3)∨(decide (x.id < 1)=false∧decide (65535 < x.id)=false∧decide (x.sh < 0)=false∧decide (30 < x.sh)=true∧oneF L x=3) ∨
 (decide (x.id < 1)=false∧decide (65535 < x.id)=false∧decide (x.sh < 0)=false∧decide (30 < x.sh)=false∧((cndB x.lv x.rt=false∧oneF L x=3)∨(cndB x.lv x.rt=true∧decide ((4096:Int) < (n:Int))=true∧oneF L x=2)∨(cndB x.lv x.rt=true∧decide ((4096:Int) < (n:Int))=false∧L.any (takB x)=true∧oneF L x=15)∨(cndB x.lv x.rt=true∧decide ((4096:Int) < (n:Int))=false∧L.any (takB x)=false∧oneF L x=0))):=by
 subst hn
 unfold oneF rngF
 by_cases h1:x.id < 1
 · have e : ¬ 1 ≤ x.id := by omega
   simp [h1,e]
 have e1:1≤x.id:=by omega
 by_cases h2:65535 < x.id
 · have e : ¬ x.id ≤ 65535 := by omega
   simp [h1,h2,e1,e]
 have e2:x.id≤65535:=by omega
 by_cases h3:x.sh < 0
 · have e : ¬ 0 ≤ x.sh := by omega
   simp [h1,h2,h3,e1,e2,e]
 have e3:0≤x.sh:=by omega
 by_cases h4:30 < x.sh
 · have e : ¬ x.sh ≤ 30 := by omega
   simp [h1,h2,h3,h4,e1,e2,e3,e]
 have e4:x.sh≤30:=by omega
 rcases h5:cndB x.lv x.rt with _ | _
 · simp [h1,h2,h3,h4,e1,e2,e3,e4]
 by_cases h6:4096 < x.d.length
 · have e : (4096 : Int) < (x.d.length : Int) := by omega
   simp [h1,h2,h3,h4,e1,e2,e3,e4,h6,e]
 have e6:¬(4096:Int) < (x.d.length:Int):=by omega
 rcases h7:L.any (takB x) with _ | _ <;> simp [h1,h2,h3,h4,e1,e2,e3,e4,h6,e6,h7]
set_option maxHeartbeats 6400000 in
theorem p_checkfile (L : List Fw) (m : Nat) (hm : L.length = m) (hm2 : m ≤ 1000000) (x : Fw) (A : Option Addr) (c : Nat) (w : World) (hs : SeesU w (· < w.heap.size) A c L) :
 Calls Try.prog 52 #[.agg x.cs.toArray,.slice A m c] w fun e w'=>e=.returned (.int .i64 (oneF L x))∧Below w.heap.size w w':=by
 obtain ⟨n,hn⟩ : ∃z,x.d.length=z:=⟨_,rfl⟩
 have hc:=one_cases L x n hn
 have HC:=Lib.hid (show ∀u,Calls Try.prog 55 #[.agg (cnV x.lv x.rt).toArray] u fun e u'=>e=.returned (.bool (cndB x.lv x.rt))∧Below u.heap.size u u' from fun u=>p_iscond x.lv x.rt u)
 have HT:=Lib.hid (fun g u (hb:Below w.heap.size w u) (hr:RowV u g x.cs)=>p_cfT (takB x) g L m hm hm2 A c u (hs.on hb) fun z u' _ hb2=>p_taken x z g u' (hr.on hb2))
 obtain ⟨us,hus⟩ : ∃us,x.cs=us:=⟨_,rfl⟩
 have HU:=Lib.hid (show us.length=5∧us[0]? = some (.int .i64 x.id)∧us[1]? = some (.int .i64 x.sh)∧us[2]? = some (.slice x.A n x.c)∧(us.drop 3).take 2=cnV x.lv x.rt from by rw [←hus,←hn];exact ⟨rfl,rfl,rfl,rfl,rfl⟩)
 obtain ⟨v,hv⟩ : ∃v,oneF L x=v:=⟨_,rfl⟩
 obtain ⟨i,s,xA,xc,lv,rt,d⟩:=x
 simp only at hc HC HT HU
 rw [hus] at HT ⊢
 rw [hv] at hc ⊢
 obtain ⟨q,hq⟩ : ∃b,cndB lv rt=b:=⟨_,rfl⟩
 obtain ⟨qa,hqa⟩ : ∃b,L.any (takB ⟨i,s,xA,xc,lv,rt,d⟩)=b:=⟨_,rfl⟩
 rw [hq] at hc HC
 rw [hqa] at hc HT
 have HB:=Lib.hid (Below.refl w.heap.size w)
 clear hs hm hus hv hq hqa hn
 rcases hc with ⟨h1,rfl⟩ | ⟨h1,h2,rfl⟩ | ⟨h1,h2,h3,rfl⟩ | ⟨h1,h2,h3,h4,rfl⟩ | ⟨h1,h2,h3,h4,⟨rfl,rfl⟩ | ⟨rfl,h6,rfl⟩ | ⟨rfl,h6,rfl,rfl⟩ | ⟨rfl,h6,rfl,rfl⟩⟩
 all_goals
  go_enter Try.func52,Try.ntmps52
  go_wp2_with (first
   | ((with_reducible refine zag (d:=2) ?_);refine zaa (op:=⟨some 2,_,_,_,_,_⟩) rfl 60 _ rfl us rfl ?_;intro g1 w1 hf hr;have H1:=Lib.hid (show Below w.heap.size w w1∧RowV w1 g1 us from ⟨hf.bl HB.out,hr⟩);have c0:=(hr.cell 0).trans HU.out.2.1;have c1:=(hr.cell 1).trans HU.out.2.2.1;have c2:=(hr.cell 2).trans HU.out.2.2.2.1;clear hf hr)
   | ((with_reducible refine zac (d:=26) ?_);go_must (refine zbh (by rfl) 54 (.tmp 25) rfl g1 3 rfl (cnV lv rt) _ (by rw [←HU.out.2.2.2.2];exact H1.out.2.range 3 2 (by rw [HU.out.1];decide)) Try.underlying54 rfl zat ?_))
   | (go_at_call 55;((with_reducible refine (HC.out _).mono ?_);rintro e w2 ⟨rfl,h2⟩);have H2:=Lib.hid (show Below w.heap.size w w2∧RowV w2 g1 us from ⟨zad H1.out.1 h2,H1.out.2.on h2⟩);clear c0 c1 c2;have c2:=(H2.out.2.cell 2).trans HU.out.2.2.2.1;clear h2)
   | (go_at_call 57;((with_reducible refine (HT.out g1 _ H2.out.1 H2.out.2).mono ?_);rintro e w3 ⟨rfl,h3⟩);have H3:=Lib.hid (zad H2.out.1 h3);clear h3))
  go_ret
  first
   | exact ⟨rfl,H3.out⟩
   | exact ⟨rfl,H2.out.1⟩
   | exact ⟨rfl,H1.out.1⟩
end Go.Proofs.Ytkdlfbggddllhaa
