/-
  What is proved here: Groups of the program; the law's awake; what the program's functions of this layer hand back, as the laws want it.
-/
import Derived.Test.YtnlhbknajdpnbaaGreatDoorF44
import Derived.Test.YtnlhbknajdpnbaaGreatDoorF19
import Derived.Test.YtnlhbknajdpnbaaGreatDoorF7
import Derived.Test.YtnlhbknajdpnbaaGreatDoorRows
import Derived.Test.YtnlhbknajdpnbaaGreatDoorF0
import Derived.Test.YtnlhbknajdpnbaaGreatDoorF38
import Derived.Test.YtnlhbknajdpnbaaGreatDoorF42
import Derived.Test.YtnlhbknajdpnbaaGreatDoorF37
import Derived.Test.YtnlhbknajdpnbaaGreatDoorF6
import Derived.Test.YtnlhbknajdpnbaaGreatDoorF41
set_option linter.unusedVariables false
set_option linter.unusedSimpArgs false
namespace Go.Proofs.YtnlhbknajdpnbaaGreatDoor
open Go.RowKit
set_option maxRecDepth 8000
def gnB (x:UInt8):Int:=(ggR (x.toNat:Int)).1
def geB (x:UInt8):Int:=(ggR (x.toNat:Int)).2
def gsE (last : Int) : List UInt8 → Int
 | []=>0
 | x::r=>if geB x≠0∨16 < gnB x then 4 else if gnB x≤last then 17 else gsE (gnB x) r
def gkX : Option (List UInt8) → List Int × Int
 | none=>([],1)
 | some v=>if gsE 0 v=0 then (v.map gnB,0) else ([],gsE 0 v)
def grX (l:List UInt8):List Int×Int:=if (obX l 17 17).2.2≠0 then ([],(obX l 17 17).2.2) else gkX (coV (obX l 17 17).2.1)
theorem gsE_at {v : List UInt8} {j : Nat} {x : UInt8} (h : v[j]? = some x) (last : Int) : gsE last (v.drop j) = if geB x ≠ 0 ∨ 16 < gnB x then 4 else if gnB x ≤ last then 17 else gsE (gnB x) (v.drop (j + 1)) := by
 have hj:j < v.length:=(List.getElem?_eq_some_iff.1 h).1
 have e : v.drop j = x :: v.drop (j + 1) := by
  rw [List.drop_eq_getElem_cons hj]
  rw [List.getElem?_eq_getElem hj] at h
  injection h with h
  rw [h]
 rw [e]
 rfl
theorem ggF_pos {t : Int} : ∀ (l : List Int) (i : Int), 0 ≤ i → (ggF t l i).2 = 0 → 1 ≤ (ggF t l i).1
 | [],i,_,h=>by cases h
 | x :: r, i, h0, h => by
   unfold ggF at h ⊢
   split at h
   · rw [if_pos (by assumption)]
     show 1≤i+1
     omega
   · rw [if_neg (by assumption)]
     exact ggF_pos r (i+1) (by omega) h
theorem gnB_pos {x:UInt8} (h:geB x=0):1≤gnB x:=ggF_pos zbD 0 (by decide) h
theorem opG_sm {f : F} (h : f.sm) : (opG f).2.1.sm := by
 match f,h with
 | .nil,_=>exact trivial
 | .cons t v k .nil, h =>
   by_cases hq:(ggR t).2=0
   · have e : opG (.cons t v k .nil) = ((ggR t).1, k, 0) := if_pos hq
     rw [e]
     exact h.2.1
   · have e : opG (.cons t v k .nil) = (0, .nil, (ggR t).2) := if_neg hq
     rw [e]
     exact trivial
 | .cons _ _ _ (.cons _ _ _ _),_=>exact trivial
theorem F.fit_sm15 : ∀ {f : F} {m : Nat}, f.fit m → f.sm
 | .nil,_,_=>trivial
 | .cons t v k r,m,⟨h1,h2,h3,h4,h5,h6,h7⟩=>⟨h5,F.fit_sm15 h6,F.fit_sm15 h7⟩
theorem opX_sm (l : List UInt8) : (opX l).2.1.sm := by
 unfold opX
 rcases hr:zcu false l with x | ⟨f,q⟩
 · exact trivial
 · exact opG_sm (F.fit_sm15 (zgw hr).1)
theorem obX_sm (l : List UInt8) (lo hi : Int) : (obX l lo hi).2.1.sm := by
 unfold obX
 split
 · exact trivial
 · split
   · exact trivial
   · exact opX_sm l
theorem coV_sm {f : F} {v : List UInt8} (h : f.sm) (hv : coV f = some v) : v.length ≤ 4096 := by
 match f,h with
 | .nil,_=>cases hv
 | .cons _ _ _ .nil,_=>cases hv
 | .cons _ _ _ (.cons _ _ _ .nil),_=>cases hv
 | .cons t1 v1 k1 (.cons t2 v2 k2 (.cons t3 v3 k3 .nil)), h =>
   have hv:(if t1=24321∧v1=zdJ∧t2=24374∧v2=zdQ∧t3=92 then some v3 else none)=some v:=hv
   split at hv
   · injection hv with hv
     subst hv
     exact h.2.2.2.2.1
   · cases hv
 | .cons _ _ _ (.cons _ _ _ (.cons _ _ _ (.cons _ _ _ _))),_=>cases hv
def gcs (v:List UInt8) (n j:Nat):List Value:=(v.take j).map (fun x=>.int .i64 (gnB x))++List.replicate (n - j) (.int .i64 0)
theorem gcs_len {v : List UInt8} {n j : Nat} (hn : v.length = n) (hj : j ≤ n) : (gcs v n j).length = n := by
 unfold gcs
 rw [List.length_append,List.length_map,List.length_take,List.length_replicate]
 omega
theorem gcs_set {v : List UInt8} {n j : Nat} {x : UInt8} (hn : v.length = n) (hx : v[j]? = some x) : (gcs v n j).set j (.int .i64 (gnB x)) = gcs v n (j + 1) := by
 have hj:j < v.length:=(List.getElem?_eq_some_iff.1 hx).1
 unfold gcs
 rw [List.take_add_one,hx,show n - j=(n - (j+1))+1 by omega,List.replicate_succ]
 rw [List.set_append,if_neg (by rw [List.length_map,List.length_take];omega),List.length_map,List.length_take,show j - min j v.length=0 by omega]
 simp
theorem gcs_at {v : List UInt8} {n j k : Nat} {x : UInt8} (hx : v[k]? = some x) (hk : k < j) : (gcs v n j)[k]? = some (.int .i64 (gnB x)) := by
 have hj:k < v.length:=(List.getElem?_eq_some_iff.1 hx).1
 unfold gcs
 rw [List.getElem?_append_left (by rw [List.length_map,List.length_take];omega),List.getElem?_map,List.getElem?_take,if_pos hk,hx]
 rfl
theorem gcs_end {v : List UInt8} {n : Nat} (hn : v.length = n) : gcs v n n = (v.map gnB).map (Value.int .i64) := by
 unfold gcs
 rw [List.take_of_length_le (by omega),Nat.sub_self,List.map_map]
 simp
theorem info_i3:(Tryz.prog.info? 3).map (fun i=>(i.zero,i.size,i.bytes))=some (some (.int .i64 0),1,8):=by kernel_rfl
theorem mk_int15 (n : Nat) (h : n ≤ 4096) (w : World) : (Instr.makeSlice 22 (.int .i64 (n : Int)) (.int .i64 (n : Int))).run Tryz.prog w = .ok (.slice (some ⟨w.heap.size, 0, none⟩) n n) (w.alloc (.cells (List.replicate n (Value.int .i64 0)).toArray 3)) := by
 rw [←toList_madeCells_one (Value.int .i64 0) n]
 exact run_make_row' 22 3 (.int .i64 0) 8 Tryz.underlying22 info_i3 rfl .i64 .i64 n (by omega) (by omega) w
theorem at_mk15 {P:Program} {ops:Array Oper} {rest:List Oper} {a:Act} {w:World} {Q:Exit→Act→World→Prop} {d:Nat} {x y:Operand} {ty t:TypeId} {ps:String} {af:Array Edge} {gd:Option (Nat×Bool)} (h:wpList P ops Q (⟨some d,.makeSlice ty x y,t,ps,af,gd⟩::rest) a w):wpList P ops Q (⟨some d,.makeSlice ty x y,t,ps,af,gd⟩::rest) a w:=h
theorem zex (x : UInt8) (w : World) : (convert 5 3 (U x)).run Tryz.prog w = .ok (.int .i64 (x.toNat : Int)) w := by
 have hx:x.toNat < 256:=x.toNat_lt
 have h:IntKind.i64.wrap (x.toNat:Int)=(x.toNat:Int):=wrap_small _ (by omega) (by omega)
 have e:(convert 5 3 (U x)).run Tryz.prog w=.ok (.int .i64 (IntKind.i64.wrap (x.toNat:Int))) w:=by kernel_rfl
 rw [e,h]
def GrsIs (r:List Int×Int) (w:World) (e:Ending) (w':World):Prop:=∃A c,e=.returned (.tuple #[.slice A r.1.length c,.int .i64 r.2])∧SeesP w' (· < w'.heap.size) A (r.1.map (Value.int .i64))∧Below w.heap.size w w'
theorem GrsIs.bad {r : List Int × Int} {w u : World} (x : Int) (h : r = ([], x)) (hb : Below w.heap.size w u) : GrsIs r w (.returned (.tuple #[.slice none 0 0, .int .i64 x])) u := by
 subst h
 exact ⟨none,0,rfl,.inl rfl,hb⟩
theorem u8_atV {w : World} {p : Nat → Prop} {A : Option Addr} {v : List UInt8} {j : Nat} {q : UInt8} (h : SeesP w p A (Us v)) (hq : v[j]? = some q) : ∃ b off, A = some ⟨b, off, none⟩ ∧ p b ∧ w.cell? ⟨b, off + j, none⟩ = some (U q) := by
 have hj:j < v.length:=(List.getElem?_eq_some_iff.1 hq).1
 rcases h with h | ⟨b,off,rfl,hp,hc⟩
 · have := congrArg List.length h
   rw [zat] at this
   simp only [List.length_nil] at this
   omega
 · refine ⟨b, off, rfl, hp, ?_⟩
   rw [hc j (by rw [zat];exact hj)]
   unfold Us
   rw [List.getElem?_map,hq]
   rfl
set_option maxHeartbeats 6400000 in
set_option maxRecDepth 20000 in
theorem p_groups15 (l : List UInt8) (n : Nat) (hn : l.length = n) (hm : n ≤ 140737488351232) (A : Option Addr) (cap : Nat) (hcap : n ≤ cap) (w : World) (ht : TabT w) (hs : SeesP w (· < w.heap.size) A (Us l)) :
 Calls Tryz.prog 14 #[.slice A n cap] w (GrsIs (grX l) w):=by
 have hsm:=obX_sm l 17 17
 have hP:=p_opena l n hn hm A cap hcap 17 w ht hs
 have HT:=Lib.hid ht
 have hx:grX l=if (obX l 17 17).2.2≠0 then ([],(obX l 17 17).2.2) else gkX (coV (obX l 17 17).2.1):=rfl
 obtain ⟨⟨gv,f,er⟩,hr⟩ : ∃r,obX l 17 17=r:=⟨_,rfl⟩
 rw [hr] at hP hsm hx
 unfold OasIs at hP
 simp only at hP hsm hx
 have hC:=fun (A:Option Addr) (c:Nat) (u:World) (h1:f.len≤c) (h2:SeesN u (· < u.heap.size) A f)=>p_openc f f.len rfl A c h1 u h2
 obtain ⟨lk,hlk⟩ : ∃z,f.len=z:=⟨_,rfl⟩
 rw [hlk] at hP hC
 have HP:=Lib.hid hP
 rw [hx]
 clear hr hx hs ht hcap hm hn hlk hP
 by_cases h0:er=0
 case neg =>
  rw [if_pos h0]
  have d0:(er != 0)=true:=by simpa using h0
  have HQ:=Lib.hid (show ∀u,Below w.heap.size w u→GrsIs ([],er) w (.returned (.tuple #[.slice none 0 0,.int .i64 er])) u from fun u hb=>GrsIs.bad er rfl hb)
  obtain ⟨RR,hRR⟩ : ∃z,(([],er):List Int×Int)=z:=⟨_,rfl⟩
  rw [hRR] at HQ ⊢
  clear h0 hC hsm hRR
  go_enter Tryz.func14,Tryz.ntmps14
  go_wp2_with (first
   | (go_at_call 36;((with_reducible refine HP.out.mono ?_);rintro e w1 ⟨A1,c1,rfl,hc,hk,hb⟩);have HX:=Lib.hid hb;clear hb hc hk))
  refine bodyPost_ret (results_tmp2 rfl _ _ _) rfl ?_
  exact HQ.out _ HX.out
 case pos =>
 rw [if_neg (by simpa using h0)]
 subst h0
 have hbd:=fun v (h:coV f=some v)=>coV_sm hsm h
 obtain ⟨o,ho⟩ : ∃z,coV f=z:=⟨_,rfl⟩
 rw [ho] at hC hbd ⊢
 unfold OncIs at hC
 have HC:=Lib.hid hC
 clear hC ho hsm
 rcases o with _ | v
 · clear hbd
   go_enter Tryz.func14,Tryz.ntmps14
   go_wp2_with (first
    | (go_at_call 36;((with_reducible refine HP.out.mono ?_);rintro e w1 ⟨A1,c1,rfl,hc,hk,hb⟩);have HX:=Lib.hid (show Below w.heap.size w w1∧lk≤c1∧SeesN w1 (· < w1.heap.size) A1 f from ⟨hb,hc,hk.imp fun b h=>h.2⟩);clear hb hc hk)
    | (go_at_call 37;((with_reducible refine (HC.out A1 c1 _ HX.out.2.1 HX.out.2.2).mono ?_);rintro e w2 ⟨hb,h1,h2⟩);have e1:=h1 (by first | rfl | exact trivial);subst e1;have HY:=Lib.hid (zaf HX.out.1 hb);clear hb h1 h2))
   go_ret2
   exact GrsIs.bad 1 rfl HY.out
 have hv:=hbd v rfl
 have HG0 := Lib.hid (show ∀ x, gsE 0 v = x → x ≠ 0 → ∀ u, Below w.heap.size w u → GrsIs (gkX (some v)) w (.returned (.tuple #[.slice none 0 0, .int .i64 x])) u from fun x hx h0 u hb => GrsIs.bad x (by
  show (if gsE 0 v=0 then (v.map gnB,0) else ([],gsE 0 v))=_
  rw [hx,if_neg h0]) hb)
 have HGE:=Lib.hid (show gsE 0 v=0→gkX (some v)=(v.map gnB,0) from fun h=>if_pos h)
 obtain ⟨R,hR⟩ : ∃z,gkX (some v)=z:=⟨_,rfl⟩
 rw [hR] at HG0 HGE ⊢
 obtain ⟨n,hn⟩ : ∃z,v.length=z:=⟨_,rfl⟩
 rw [hn] at hv
 have HN:=Lib.hid (show _∧_ from ⟨hn,hv⟩)
 clear hbd hR hn
 go_enter Tryz.func14,Tryz.ntmps14
 go_wp2_with (first
  | (go_at_call 36;((with_reducible refine HP.out.mono ?_);rintro e w1 ⟨A1,c1,rfl,hc,hk,hb⟩);have HX:=Lib.hid (show Below w.heap.size w w1∧lk≤c1∧SeesN w1 (· < w1.heap.size) A1 f from ⟨hb,hc,hk.imp fun b h=>h.2⟩);clear hb hc hk)
  | (go_at_call 37;((with_reducible refine (HC.out A1 c1 _ HX.out.2.1 HX.out.2.2).mono ?_);rintro e w2 ⟨hb,h1,h2⟩);obtain ⟨A2,c2,e2,h3,_⟩:=h2 v rfl;rw [HN.out.1] at e2;subst e2;have HY:=Lib.hid (show Below w.heap.size w w2∧SeesP w2 (· < w2.heap.size) A2 (Us v) from ⟨zaf HX.out.1 hb,h3⟩);clear hb h1 h2 h3)
  | ((with_reducible refine at_mk15 (d:=30) ?_);go_must (refine wpList_make_v rfl _ _ _ rfl _ _ rfl rfl (List.replicate n (Value.int .i64 0)) n _ (mk_int15 n HN.out.2 _) ?_);intro g8 w3 hf hr;have HZ:=Lib.hid (show Below w.heap.size w w3∧SeesP w3 (· < w3.heap.size) A2 (Us v)∧RowV w3 g8 (gcs v n 0)∧w.heap.size≤g8∧w2.heap.size≤g8∧Below w2.heap.size w2 w3 from ⟨zaf HY.out.1 hf.bw,SeesP.on2 HY.out.2 hf.bw,hr,Nat.le_trans HY.out.1.size (Nat.le_of_eq hf.1.symm),Nat.le_of_eq hf.1.symm,hf.bw⟩);clear hf hr))
 go_loopw [33] (fun i wr=>∃(j:Nat) (lv:Int),j≤n∧i=.int .i64 (j:Int)∧Hid (Below w.heap.size w wr∧SeesP wr (fun b=>b < w2.heap.size) A2 (Us v)∧RowV wr g8 (gcs v n j)∧gsE 0 v=gsE lv (v.drop j)∧(j=0→lv=0)∧∀k,j=k+1→∃x,v[k]? = some x∧gnB x=lv)) (fun i _=>n - (intOf i).toNat)
 case atStart=>exact ⟨0,0,by omega,rfl,Lib.hid ⟨HZ.out.1,HY.out.2.keep fun q hq=>HZ.out.2.2.2.2.2.cell hq,HZ.out.2.2.1,rfl,fun _=>rfl,fun k hk=>by omega⟩⟩
 case round =>
  obtain ⟨j,lv,hj,rfl,HR⟩:=hrel
  by_cases hlt:j < n
  · have dj : decide ((j : Int) < (n : Int)) = true := by simp; omega
    obtain ⟨x,hx⟩ : ∃x,v[j]? = some x:=⟨_,List.getElem?_eq_getElem (by rw [HN.out.1];exact hlt)⟩
    obtain ⟨b,off,rfl,hb,hc⟩:=u8_atV HR.out.2.1 hx
    have hst:=gsE_at hx lv
    rw [←HR.out.2.2.2.1] at hst
    have hset:=gcs_set (n:=n) HN.out.1 hx
    have hgp:=gnB_pos (x:=x)
    have hG:=p_group (x.toNat:Int) wr (HT.out.on HR.out.1)
    have HI:=Lib.hid (fun u=>p_isdata (gnB x) u)
    have HGX:=Lib.hid (show ∃y,v[j]? = some y∧gnB y=gnB x from ⟨x,hx,rfl⟩)
    obtain ⟨gn,hgn⟩ : ∃z,gnB x=z:=⟨_,rfl⟩
    obtain ⟨ge,hge⟩ : ∃z,geB x=z:=⟨_,rfl⟩
    rw [show (ggR (x.toNat:Int)).1=gn from hgn,show (ggR (x.toNat:Int)).2=ge from hge] at hG
    rw [hgn] at hst hset hgp HI HGX
    rw [hge] at hst hgp
    have HG:=Lib.hid hG
    clear hG hgn hge hx hb
    by_cases h0:ge=0
    case neg =>
     have d0:(ge != 0)=true:=by simpa using h0
     rw [if_pos (.inl h0)] at hst
     have HD:=Lib.hid (HG0.out 4 hst (by decide) _ HR.out.1)
     clear hst hset hgp h0
     go_wp2_with (first
      | ((with_reducible refine zal (d:=40) ?_);go_must (refine zbJ rfl 5 3 (.tmp 39) rfl rfl (zex x _) ?_))
      | (go_at_call 31;((with_reducible refine HG.out.mono ?_);rintro e w2 ⟨rfl,hw1⟩);(have hw2:=hw1.symm;clear hw1;subst hw2)))
     go_ret2
     exact HD.out
    case pos =>
    subst h0
    have hg1:=hgp rfl
    by_cases h2:16 < gn
    · rw [if_pos (.inr h2)] at hst
      rw [isd_no (by omega)] at HI
      have HD:=Lib.hid (HG0.out 4 hst (by decide) _ HR.out.1)
      clear hst hset hgp h2 hg1
      go_wp2_with (first
       | ((with_reducible refine zal (d:=40) ?_);go_must (refine zbJ rfl 5 3 (.tmp 39) rfl rfl (zex x _) ?_))
       | (go_at_call 31;((with_reducible refine HG.out.mono ?_);rintro e w2 ⟨rfl,hw1⟩);(have hw2:=hw1.symm;clear hw1;subst hw2))
       | (go_at_call 32;((with_reducible refine (HI.out _).mono ?_);rintro e w1 ⟨rfl,hw1⟩);(have hw2:=hw1.symm;clear hw1;subst hw2)))
      go_ret2
      exact HD.out
    rw [if_neg (by intro h;rcases h with h | h;exact h rfl;exact h2 h)] at hst
    rw [isd_yes (by omega)] at HI
    have hcase : (j = 0 ∧ lv = 0) ∨ ∃ k0, j = k0 + 1 ∧ wr.cell? ⟨g8, k0, none⟩ = some (.int .i64 lv) := by
     rcases j with _ | k0
     · exact .inl ⟨rfl,HR.out.2.2.2.2.1 rfl⟩
     · refine .inr ⟨k0, rfl, ?_⟩
       obtain ⟨y,hy,hy2⟩:=HR.out.2.2.2.2.2 k0 rfl
       rw [HR.out.2.2.1.cell,gcs_at hy (by omega),hy2]
    by_cases h3:gn≤lv
    · have d3 : decide (gn ≤ lv) = true := by simpa using h3
      rw [if_pos h3] at hst
      have HD:=Lib.hid (HG0.out 17 hst (by decide) _ HR.out.1)
      rcases hcase with ⟨e1,e2⟩ | ⟨k0,e1,c2⟩
      · omega
      have dp:0 < j:=by omega
      have hjn:¬j=0:=by omega
      have c3:=c2
      rw [show k0=j - 1 by omega] at c3
      have es:wrap64 ((j:Int) - 1)=(k0:Int):=by have:=HN.out.2;unfold wrap64;omega
      have hkn:k0 < n:=by omega
      clear hst hset hgp h2 h3 e1 hg1
      go_wp2_with (first
       | ((with_reducible refine zal (d:=40) ?_);go_must (refine zbJ rfl 5 3 (.tmp 39) rfl rfl (zex x _) ?_))
       | (go_at_call 31;((with_reducible refine HG.out.mono ?_);rintro e w2 ⟨rfl,hw1⟩);(have hw2:=hw1.symm;clear hw1;subst hw2))
       | (go_at_call 32;((with_reducible refine (HI.out _).mono ?_);rintro e w1 ⟨rfl,hw1⟩);(have hw2:=hw1.symm;clear hw1;subst hw2)))
      go_ret2
      exact HD.out
    have d3:decide (gn≤lv)=false:=by simpa using h3
    rw [if_neg h3] at hst
    have HST:=Lib.hid (show gsE 0 v=gsE gn (v.drop (j+1))∧(j+1=0→gn=0)∧∀k,j+1=k+1→∃x,v[k]? = some x∧gnB x=gn from ⟨hst,fun h=>by omega,fun k hk=>by injection hk with hk;subst hk;exact HGX.out⟩)
    have hlen:=gcs_len HN.out.1 hj
    have HSET:=Lib.hid (show _∧_ from ⟨hset,hlen⟩)
    rcases hcase with ⟨e1,e2⟩ | ⟨k0,e1,c2⟩
    · have dp : ¬ 0 < j := by omega
      clear hst hset hgp h2 h3 hg1 hlen e1 e2
      go_wp2_with (first
       | ((with_reducible refine zal (d:=40) ?_);go_must (refine zbJ rfl 5 3 (.tmp 39) rfl rfl (zex x _) ?_))
       | (go_at_call 31;((with_reducible refine HG.out.mono ?_);rintro e w2 ⟨rfl,hw1⟩);(have hw2:=hw1.symm;clear hw1;subst hw2))
       | (go_at_call 32;((with_reducible refine (HI.out _).mono ?_);rintro e w1 ⟨rfl,hw1⟩);(have hw2:=hw1.symm;clear hw1;subst hw2))
       | ((with_reducible refine zak (i:=65) ?_);go_must (refine zaj rfl 3 (.tmp 65) (.tmp 64) rfl g8 j (gcs v n j) (.int .i64 gn) rfl rfl HR.out.2.2.1 (by rw [HSET.out.2];exact hlt) rfl rfl zcO ?_);intro w9 hw hr;rw [HSET.out.1] at hr;have H9:=Lib.hid (show Below w.heap.size w w9∧SeesP w9 (fun b=>b < w2.heap.size) (some ⟨b,off,none⟩) (Us v)∧RowV w9 g8 (gcs v n (j+1)) from ⟨Wr.bl HR.out.1 hw HZ.out.2.2.2.1,HR.out.2.1.keep fun q hq=>(World.cell?_of_block (hw.2.2.2.2 q.block (by have:=HZ.out.2.2.2.2.1;omega))),hr⟩);clear hw hr))
      go_roundw
      case rel=>exact ⟨j+1,gn,by omega,by first | rfl | go_num,Lib.hid ⟨H9.out.1,H9.out.2.1,H9.out.2.2,HST.out⟩⟩
      case measure=>simp [intOf];omega
    · have dp : 0 < j := by omega
      have hjn:¬j=0:=by omega
      have c3:=c2
      rw [show k0=j - 1 by omega] at c3
      have es:wrap64 ((j:Int) - 1)=(k0:Int):=by have:=HN.out.2;unfold wrap64;omega
      have hkn:k0 < n:=by omega
      clear hst hset hgp h2 h3 e1 hg1 hlen
      go_wp2_with (first
       | ((with_reducible refine zal (d:=40) ?_);go_must (refine zbJ rfl 5 3 (.tmp 39) rfl rfl (zex x _) ?_))
       | (go_at_call 31;((with_reducible refine HG.out.mono ?_);rintro e w2 ⟨rfl,hw1⟩);(have hw2:=hw1.symm;clear hw1;subst hw2))
       | (go_at_call 32;((with_reducible refine (HI.out _).mono ?_);rintro e w1 ⟨rfl,hw1⟩);(have hw2:=hw1.symm;clear hw1;subst hw2))
       | ((with_reducible refine zak (i:=65) ?_);go_must (refine zaj rfl 3 (.tmp 65) (.tmp 64) rfl g8 j (gcs v n j) (.int .i64 gn) rfl rfl HR.out.2.2.1 (by rw [HSET.out.2];exact hlt) rfl rfl zcO ?_);intro w9 hw hr;rw [HSET.out.1] at hr;have H9:=Lib.hid (show Below w.heap.size w w9∧SeesP w9 (fun b=>b < w2.heap.size) (some ⟨b,off,none⟩) (Us v)∧RowV w9 g8 (gcs v n (j+1)) from ⟨Wr.bl HR.out.1 hw HZ.out.2.2.2.1,HR.out.2.1.keep fun q hq=>(World.cell?_of_block (hw.2.2.2.2 q.block (by have:=HZ.out.2.2.2.2.1;omega))),hr⟩);clear hw hr))
      go_roundw
      case rel=>exact ⟨j+1,gn,by omega,by first | rfl | go_num,Lib.hid ⟨H9.out.1,H9.out.2.1,H9.out.2.2,HST.out⟩⟩
      case measure=>simp [intOf];omega
  · obtain rfl : j = n := by omega
    have dj:decide ((j:Int) < (j:Int))=false:=by simp
    have h0 : gsE 0 v = 0 := by
     rw [HR.out.2.2.2.1,List.drop_eq_nil_of_le (by rw [HN.out.1];exact Nat.le_refl _)]
     rfl
    have HE := Lib.hid (show GrsIs R w (.returned (.tuple #[.slice (some ⟨g8, 0, none⟩) j j, .int .i64 0])) wr from by
     rw [HGE.out h0]
     refine ⟨some ⟨g8,0,none⟩,j,?_,?_,HR.out.1⟩
     · show _ = Ending.returned (.tuple #[.slice (some ⟨g8, 0, none⟩) (v.map gnB).length j, .int .i64 0])
       rw [List.length_map,HN.out.1]
     · show SeesP wr _ _ ((v.map gnB).map (Value.int .i64))
       rw [←gcs_end HN.out.1]
       exact .inr ⟨g8,0,rfl,HR.out.2.2.1.lt,fun i hi=>by rw [Nat.zero_add,HR.out.2.2.1.cell]⟩)
    clear HR h0
    go_wp2_with fail
    go_ret2
    exact HE.out
def aw3:List Int:=[1,2,14]
theorem awk15_e:cmE aw3=0:=by kernel_rfl
theorem awk15_l:(cmB aw3).length=23:=by kernel_rfl
theorem awk15_h:(Us (cmB aw3))[0]? = some (.int .u8 96):=by kernel_rfl
theorem awk15_g:grX (cmB aw3)=(aw3,0):=by kernel_rfl
theorem bs3i:Tryz.prog.builtSlice 3 3 [(0,.int .i64 1),(1,.int .i64 2),(2,.int .i64 14)]=some (aw3.map (Value.int .i64)).toArray:=by kernel_rfl
set_option maxHeartbeats 1600000 in
set_option maxRecDepth 20000 in
theorem law_awake15 (w : World) (ht : TabT w) : Calls Tryz.prog 5 #[] w fun e w' => e = .returned (.bool true) ∧ Below w.heap.size w w' := by
 have HT:=Lib.hid ht
 have HCM : Hid (∀ A c w, SeesP w (· < w.heap.size) A (aw3.map (Value.int .i64)) → TabT w → Calls Tryz.prog 13 #[.slice A 3 c] w fun e w' => ∃ b o c', e = .returned (.tuple #[.slice (some ⟨b, o, none⟩) 23 c', .int .i64 0]) ∧ SeesP w' (· < w'.heap.size) (some ⟨b, o, none⟩) (Us (cmB aw3)) ∧ Below w.heap.size w w' ∧ 23 ≤ c') := Lib.hid fun A c w hs ht => by
  refine (p_common aw3 3 rfl (by decide) A c w ht (by decide) hs).mono fun e w' h=>?_
  obtain ⟨A',c',h1,h2,h3,h4⟩:=h
  rw [awk15_l,awk15_e] at h1
  rw [awk15_l] at h4
  rcases h2 with h2 | ⟨b,o,rfl,h5,h6⟩
  · have := congrArg List.length h2
    rw [zat,awk15_l] at this
    cases this
  · exact ⟨b,o,c',h1,.inr ⟨b,o,rfl,h5,h6⟩,h3,h4⟩
 have HGP : Hid (∀ A c w, 23 ≤ c → SeesP w (· < w.heap.size) A (Us (cmB aw3)) → TabT w → Calls Tryz.prog 14 #[.slice A 23 c] w fun e w' => ∃ b o c', e = .returned (.tuple #[.slice (some ⟨b, o, none⟩) 3 c', .int .i64 0]) ∧ w'.cell? ⟨b, o + 2, none⟩ = some (.int .i64 14) ∧ Below w.heap.size w w') := Lib.hid fun A c w hc hs ht => by
  refine (p_groups15 (cmB aw3) 23 awk15_l (by decide) A c hc w ht hs).mono fun e w' h=>?_
  obtain ⟨A',c',h1,h2,h3⟩:=h
  rw [awk15_g] at h1 h2
  rcases h2 with h2 | ⟨b,o,rfl,h5,h6⟩
  · cases h2
  · exact ⟨b,o,c',h1,h6 2 (by decide),h3⟩
 clear ht
 go_enter Tryz.func5,Tryz.ntmps5
 go_wp2_with (first
  | ((with_reducible refine zal (d:=6) ?_);go_must (refine zap rfl 22 3 3 _ rfl Tryz.underlying22 (pvv3 rfl rfl rfl) bs3i ?_);intro g1 w1 hf hr;have H1:=Lib.hid (show Below w.heap.size w w1∧SeesP w1 (· < w1.heap.size) (some ⟨g1,0,none⟩) (aw3.map (Value.int .i64)) from ⟨hf.bw,.inr ⟨g1,0,rfl,hr.lt,fun j hj=>by rw [Nat.zero_add,hr.cell]⟩⟩);clear hf hr)
  | (go_at_call 13;((with_reducible refine (HCM.out _ _ _ H1.out.2 (HT.out.on H1.out.1)).mono ?_);rintro e w2 ⟨b2,o2,c2,rfl,hs,hb,hc⟩);have H2:=Lib.hid (show Below w.heap.size w w2∧SeesP w2 (· < w2.heap.size) (some ⟨b2,o2,none⟩) (Us (cmB aw3))∧23≤c2 from ⟨zaf H1.out.1 hb,hs,hc⟩);clear hs hb hc)
  | (go_at_call 14;((with_reducible refine (HGP.out _ _ _ H2.out.2.2 H2.out.2.1 (HT.out.on H2.out.1)).mono ?_);rintro e w3 ⟨b3,o3,c3,rfl,y1,hb⟩);have H3:=Lib.hid (zaf H2.out.1 hb);have y0:w3.cell? ⟨b2,o2,none⟩=some (.int .u8 96):=((SeesP.on2 H2.out.2.1 hb).src _ rfl 0 _ awk15_h);clear hb))
 go_ret
 exact ⟨rfl,H3.out⟩
end Go.Proofs.YtnlhbknajdpnbaaGreatDoor
namespace Go.Proofs.YtnlhbknajdpnbaaGreatDoor
open Go.RowKit
set_option maxRecDepth 8000
theorem encN_sm : ∀ {f : F}, encN f ≤ 4096 → f.sm
 | .nil,_=>trivial
 | .cons t v k r, h => by
   simp only [encN] at h
   exact ⟨by omega,encN_sm (by omega),encN_sm (by omega)⟩
theorem chk_fit : ∀ {f : F} (m : Nat) (d : Int), d + (m : Int) = 9 → chkE f d = 0 → f.sm → f.fit m
 | .nil,_,_,_,_,_=>trivial
 | .cons t v k r, m, d, hd, h, hs => by
   have h1 : chk1 t v.length k.len d = 0 := by
    rcases Decidable.em (chk1 t v.length k.len d=0) with h1 | h1
    · exact h1
    · have e : chkE (.cons t v k r) d = chk1 t v.length k.len d := if_pos h1
      rw [e] at h
      exact h
   have h2 : chkE k (d + 1) = 0 ∧ chkE r d = 0 := by
    have e:chkE (.cons t v k r) d=if chkE k (d+1)≠0 then chkE k (d+1) else chkE r d:=if_neg (fun hn=>hn h1)
    rw [e] at h
    split at h
    · next hn=>exact absurd h hn
    · next hn=>exact ⟨Decidable.not_not.1 hn,h⟩
   unfold chk1 at h1
   split at h1
   · cases h1
   · next hv =>
     split at h1
     · cases h1
     · next hc =>
       split at h1
       · cases h1
       · next h8 =>
         have hv : zaA t = true := by
          rcases hq:zaA t with _ | _
          · exact absurd hq hv
          · rfl
         refine ⟨by omega,hv,fun hcb=>?_,fun hcb=>?_,hs.1,chk_fit (m - 1) (d+1) (by omega) h2.1 hs.2.1,chk_fit m d hd h2.2 hs.2.2⟩
         · refine List.eq_nil_of_length_eq_zero ?_
           rcases Nat.eq_zero_or_pos v.length with h | h
           · exact h
           · exact absurd (.inl ⟨hcb,h⟩) hc
         · refine F.len_zero ?_
           rcases Nat.eq_zero_or_pos k.len with h | h
           · exact h
           · exact absurd (.inr ⟨hcb,h⟩) hc
theorem zeE {f : F} (h : encE f = 0) : chkE f 1 = 0 ∧ f.size ≤ 256 ∧ encN f ≤ 4096 := by
 unfold encE at h
 split at h
 · next hn=>exact absurd h hn
 · next hn =>
   split at h
   · cases h
   · split at h
     · cases h
     · exact ⟨Decidable.not_not.1 hn,by omega,by omega⟩
theorem enc_back {f : F} (h : encE f = 0) (st : Bool) : zcu st (enc f) = .ok (f, f.size) := by
 obtain ⟨h1,h2,h3⟩:=zeE h
 exact parse_fit (chk_fit 8 1 (by decide) h1 (encN_sm h3)) (zgc st f (by omega)) (by rw [zbu];exact h3) h2
theorem fileOk_len {bs : List UInt8} (h : zbn bs) : bs.length ≤ 4096 := by
 rcases h with rfl | ⟨n,f,_,h,rfl⟩
 · exact Nat.zero_le _
 · rw [zbu]
   exact (zeE h).2.2
theorem gg_tags:∀k,k < 18→ggR (zbD.getD k 0)=((k:Int)+1,0):=by decide
theorem gg_gt {n : Int} (h : gtE n = 0) : ggR (gtV n) = (n, 0) := by
 obtain ⟨k,hk,hk18⟩:=gtE_in h
 rw [(gt_yes hk hk18).1,gg_tags k hk18,hk]
theorem opG_wr {n : Int} {f : F} (h : gtE n = 0) : opG (wrF n f) = (n, f, 0) := by
 have e:opG (wrF n f)=if (ggR (gtV n)).2=0 then ((ggR (gtV n)).1,f,0) else (0,.nil,(ggR (gtV n)).2):=rfl
 rw [e,gg_gt h]
 rfl
theorem forms_same {bs cb : List UInt8} {f : F} {q : Nat} (hf : zbn bs) (hp : zcu true bs = .ok (f, q)) (hl : cb.length ≤ 4096) (hb : bs.length ≠ 0) (hc : cb.length ≤ 4096 → LooseOf false f cb) :
 ∃n k,opX bs=(n,k,0)∧opX cb=(n,k,0)∧k.size < 300∧k.ok:=by
 rcases hf with rfl | ⟨n,k,hn,he,rfl⟩
 · exact absurd rfl hb
 · have h1 := enc_back he true
   rw [h1] at hp
   injection hp with hp
   injection hp with hp _
   subst hp
   obtain ⟨c1,c2,c3⟩:=zeE he
   have hfit:=chk_fit 8 1 (by decide) c1 (encN_sm c3)
   have h2:=enc_back he false
   have h3:=parse_fit hfit (hc hl) hl c2
   refine ⟨n,k,by unfold opX;rw [h2];exact opG_wr hn,by unfold opX;rw [h3];exact opG_wr hn,?_,?_⟩
   · have : (wrF n k).size = k.size + 1 := wrF_size n k
     omega
   · exact (F.fit_ok hfit).2.2.1
set_option maxHeartbeats 12800000 in
set_option maxRecDepth 20000 in
theorem law_forms (A : Option Addr) (c : Nat) (ls : List Int) (w : World) (ht : TabT w) (hg : TabG w)
 (hl:ls.length≤140737488351232) (hr:∀x∈ls,-9223372036854775808≤x∧x≤9223372036854775807) (hs:SeesP w (· < w.heap.size) A (ls.map (Value.int .i64))) :
 Calls Tryz.prog 3 #[.slice A ls.length c] w fun e w'=>e=.returned (.bool true)∧Below w.heap.size w w':=by
 have HAW:=Lib.hid (fun u (hb:Below w.heap.size w u)=>law_awake15 u (ht.on hb))
 have HT:=Lib.hid (fun u (hb:Below w.heap.size w u)=>ht.on hb)
 have HG:=Lib.hid (fun u (hb:Below w.heap.size w u)=>hg.on hb)
 have HRL:=Lib.hid (made_roll A c ls w hl hr hs)
 have HL:=Lib.hid (fun u=>made_light A ls.length c u hl)
 have HB:=Lib.hid (Below.refl w.heap.size w)
 have hgg:=hg.1
 obtain ⟨m,hm⟩ : ∃z,ls.length=z:=⟨_,rfl⟩
 rw [hm] at HRL HL ⊢
 obtain ⟨lg,hlg⟩ : ∃z,decide (m≤400)=z:=⟨_,rfl⟩
 rw [hlg] at HL
 clear hl hr hs hm hlg
 rcases lg with _ | _
 · go_enter Tryz.func3, Tryz.ntmps3
   go_wp2_with (first
    | (go_at_call 4;((with_reducible refine (HL.out _).mono ?_);rintro e w1 ⟨rfl,hw1⟩);(have hw2:=hw1.symm;clear hw1;subst hw2))
    | (go_at_call 5;((with_reducible refine (HAW.out _ HB.out).mono ?_);rintro e wz ⟨rfl,hb⟩);have HZ:=Lib.hid (zaf HB.out hb);clear hb))
   go_ret
   exact ⟨rfl,HZ.out⟩
 have N16:=Lib.hid (show ∀D u,DiceOk u D→Calls Tryz.prog 8 #[.pointer (some ⟨D,0,none⟩),.int .i64 16] u (zbj u D 16) from fun D u h=>zar D 16 u (by decide) (by decide) h)
 have HBD:=Lib.hid (show ∀a D b,Below w.heap.size w a→w.heap.size≤D→a.grownBy b (some D)→Below w.heap.size w b from fun a D b h hd hg=>h.grown hg h.size (fun g e=>by injection e with e;omega))
 have HFI:=Lib.hid (show ∀(D:Nat) (n:Int) (u:World),w.heap.size≤D→1≤n∧n≤16→Below w.heap.size w u→DiceOk u D→Calls Tryz.prog 7 #[.pointer (some ⟨D,0,none⟩),.int .i64 n] u (FilIs u D) from fun D n u hD hn hb hd=>dice_file D n hn u hd (hg.on hb) (by omega))
 clear ht hg hgg
 go_enter Tryz.func3,Tryz.ntmps3
 go_wp2_with (first
  | (go_at_call 4;((with_reducible refine (HL.out _).mono ?_);rintro e w1 ⟨rfl,hw1⟩);(have hw2:=hw1.symm;clear hw1;subst hw2))
  | (go_at_call 6;((with_reducible refine HRL.out.mono ?_);rintro e w2 ⟨rfl,hd,hb⟩);have H2a:=Lib.hid hb;clear hb;generalize hDD:w.heap.size=D at hd ⊢; have H2:=Lib.hid (show Below w.heap.size w w2∧DiceOk w2 D∧w.heap.size≤D from ⟨H2a.out,hd,Nat.le_of_eq hDD⟩);clear hd hDD H2a)
  | (go_at_call 8;((with_reducible refine (N16.out D _ H2.out.2.1).mono ?_);rintro e w3 ⟨r,hr,rfl,hg,hd⟩);have er:wrap64 (1+(r:Int))=1+(r:Int):=(by unfold wrap64;omega);have H3:=Lib.hid (show Below w.heap.size w w3∧DiceOk w3 D∧w.heap.size≤D∧r < 16 from ⟨HBD.out _ D _ H2.out.1 H2.out.2.2 hg,hd,H2.out.2.2,hr⟩);clear hg hd hr)
  | (go_at_call 7;((with_reducible refine (HFI.out D (1+(r:Int)) _ H3.out.2.2.1 (by have:=H3.out.2.2.2;omega) H3.out.1 H3.out.2.1).mono ?_);rintro e w4 ⟨bs,A4,c4,rfl,hfo,hs4,hlc,h0,hg,hd⟩);obtain ⟨lb,hlb⟩ : ∃z,bs.length=z:=⟨_,rfl⟩;rw [hlb];have H4:=Lib.hid (show Below w.heap.size w w4∧DiceOk w4 D∧w.heap.size≤D∧zbn bs∧SeesP w4 (fun b=>b < w4.heap.size∧b≠D) A4 (Us bs)∧lb≤c4∧bs.length=lb∧(A4=none→c4=0) from ⟨HBD.out _ D _ H3.out.1 H3.out.2.2.1 hg,hd,H3.out.2.2.1,hfo,hs4.imp fun b hb=>⟨hb.2,by have:=hb.1;have:=H3.out.2.1.lt;omega⟩,by rw [←hlb];exact hlc,hlb,h0⟩);clear hfo hs4 hlc h0 hg hd hlb))
 have hlb4:=fileOk_len H4.out.2.2.2.1
 rw [H4.out.2.2.2.2.2.2.1] at hlb4
 have hpar:=ref_parse true bs A4 c4 w4 (by rw [H4.out.2.2.2.2.2.2.1];omega) (by rw [H4.out.2.2.2.2.2.2.1];exact H4.out.2.2.2.2.2.1) (H4.out.2.2.2.2.1.imp fun b hb=>hb.1)
 rw [H4.out.2.2.2.2.2.2.1] at hpar
 have HM:=Lib.hid hlb4
 clear hlb4
 rcases hpr:zcu true bs with x | ⟨f,q⟩
 · rw [hpr] at hpar
   unfold ParIs at hpar
   have HP:=Lib.hid hpar
   clear hpar hpr
   refine HP.out.mono ?_
   rintro e w5 ⟨hb,rfl,hx⟩
   have d0:(x != 0)=true:=by simpa using hx
   have H5:=Lib.hid (zaf H4.out.1 hb)
   clear hb hx
   go_wp2_with (first
    | (go_at_call 5;((with_reducible refine (HAW.out _ H5.out).mono ?_);rintro e wz ⟨rfl,hb⟩);have HZ:=Lib.hid (zaf H5.out hb);clear hb))
   go_ret
   exact ⟨rfl,HZ.out⟩
 rw [hpr] at hpar
 unfold ParIs at hpar
 have hfit:=zgw hpr
 have HPR:=Lib.hid (show zcu true bs=.ok (f,q)∧f.fit 8∧f.size≤256 from ⟨hpr,hfit.1,hfit.2⟩)
 obtain ⟨lf,hlf⟩ : ∃z,f.len=z:=⟨_,rfl⟩
 simp only [hlf] at hpar
 have HP:=Lib.hid hpar
 have HLF:=Lib.hid hlf
 clear hpar hpr hfit hlf
 refine HP.out.mono ?_
 rintro e w5 ⟨hb,A5,c5,rfl,hs5⟩
 have hD5:D < w4.heap.size:=H4.out.2.1.lt
 have H5:=Lib.hid (show Below w.heap.size w w5∧DiceOk w5 D∧SeesP w5 (fun b=>b < w5.heap.size∧b≠D) A4 (Us bs) from ⟨zaf H4.out.1 hb,H4.out.2.1.below hb,(H4.out.2.2.2.2.1.keep fun k hk=>hb.cell hk.1).imp fun b hb2=>⟨Nat.lt_of_lt_of_le hb2.1 hb.size,hb2.2⟩⟩)
 have hloo:=made_looseV 300 (by decide) f 8 A5 c5 D w5 (by have:=HPR.out.2.2;omega) HPR.out.2.1 (hs5.imp fun b hb2=>⟨hb2.2,by have:=hb2.1;omega⟩) H5.out.2.1
 rw [HLF.out] at hloo
 have HLO:=Lib.hid hloo
 clear hb hs5 hloo hD5 HP
 go_wp2_with (first
  | (go_at_call 10;((with_reducible refine HLO.out.mono ?_);rintro e w6 ⟨cb,A6,c6,rfl,hlc,h0,hs6,hlo,hlz,hg,hd⟩);obtain ⟨lc,hlcc⟩ : ∃z,cb.length=z:=⟨_,rfl⟩;rw [hlcc];have H6:=Lib.hid (show Below w.heap.size w w6∧SeesP w6 (· < w6.heap.size) A4 (Us bs)∧SeesP w6 (· < w6.heap.size) A6 (Us cb)∧lc≤c6∧cb.length=lc∧(cb.length≤4096→LooseOf false f cb)∧lc≤140737488351232 from ⟨HBD.out _ D _ H5.out.1 H4.out.2.2.1 hg,(H5.out.2.2.keep fun k hk=>zau hg hk.1 hk.2).imp fun b hb2=>Nat.lt_of_lt_of_le hb2.1 hg.size,hs6.imp fun b hb2=>hb2.2,by rw [←hlcc];exact hlc,hlcc,hlo,by have:=HPR.out.2.2;omega⟩);clear hlc h0 hs6 hlo hlz hg hd hlcc))
 have hop1:=fun (u:World) (hb:Below w.heap.size w u) (hx:SeesP u (· < u.heap.size) A4 (Us bs))=>p_open15 bs lb H4.out.2.2.2.2.2.2.1 (by have:=HM.out;omega) A4 c4 H4.out.2.2.2.2.2.1 u (HT.out u hb) hx
 have hop2:=fun (u:World) (hb:Below w.heap.size w u) (hx:SeesP u (· < u.heap.size) A6 (Us cb))=>p_open15 cb lc H6.out.2.2.2.2.1 H6.out.2.2.2.2.2.2 A6 c6 H6.out.2.2.2.1 u (HT.out u hb) hx
 have HSM:=Lib.hid (show lc≤4096→lb≠0→∃n k,opX bs=(n,k,0)∧opX cb=(n,k,0)∧k.size < 300∧k.ok from fun h1 h2=>forms_same H4.out.2.2.2.1 HPR.out.1 (by rw [H6.out.2.2.2.2.1];exact h1) (by rw [H4.out.2.2.2.2.2.2.1];exact h2) H6.out.2.2.2.2.2.1)
 obtain ⟨⟨n1,k1,e1⟩,x1⟩ : ∃z,opX bs=z:=⟨_,rfl⟩
 obtain ⟨⟨n2,k2,e2⟩,x2⟩ : ∃z,opX cb=z:=⟨_,rfl⟩
 rw [x1] at hop1 HSM
 rw [x2] at hop2 HSM
 unfold OpnI15 at hop1 hop2
 simp only at hop1 hop2
 obtain ⟨z1,hz1⟩ : ∃z,k1.len=z:=⟨_,rfl⟩
 obtain ⟨z2,hz2⟩ : ∃z,k2.len=z:=⟨_,rfl⟩
 rw [hz1] at hop1
 rw [hz2] at hop2
 have HO1:=Lib.hid hop1
 have HO2:=Lib.hid hop2
 have HZZ:=Lib.hid (show k1.len=z1∧k2.len=z2 from ⟨hz1,hz2⟩)
 clear hop1 hop2 x1 x2 hz1 hz2
 by_cases hlc:4096 < lc
 · have dlc : decide ((4096 : Int) < (lc : Int)) = true := by simp; omega
   go_wp2_with (first
    | (go_at_call 11;((with_reducible refine (HO2.out _ H7.out.1 H7.out.2.2).mono ?_);rintro e w8 ⟨A8,c8,rfl,hc,hk,hb⟩);have H8:=Lib.hid (show Below w.heap.size w w8∧SeesF w8 (· < w8.heap.size) A7 k1∧SeesF w8 (· < w8.heap.size) A8 k2 from ⟨zaf H7.out.1 hb,H7.out.2.1.on hb,(hk.imp fun b hb2=>hb2.2).sees⟩);clear hc hk hb)
    | (go_at_call 11;((with_reducible refine (HO1.out _ H6.out.1 H6.out.2.1).mono ?_);rintro e w7 ⟨A7,c7,rfl,hc,hk,hb⟩);have H7:=Lib.hid (show Below w.heap.size w w7∧SeesF w7 (· < w7.heap.size) A7 k1∧SeesP w7 (· < w7.heap.size) A6 (Us cb) from ⟨zaf H6.out.1 hb,(hk.imp fun b hb2=>hb2.2).sees,SeesP.on2 H6.out.2.2.1 hb⟩);clear hc hk hb)
    | (go_at_call 5;((with_reducible refine (HAW.out _ H8.out.1).mono ?_);rintro e wz ⟨rfl,hb⟩);have HZ:=Lib.hid (zaf H8.out.1 hb);clear hb))
   go_ret
   exact ⟨rfl,HZ.out⟩
 have dlc:decide ((4096:Int) < (lc:Int))=false:=by simp;omega
 by_cases hlb:lb=0
 · have dlb : ((lb : Int) == 0) = true := by simp; omega
   go_wp2_with (first
    | (go_at_call 11;((with_reducible refine (HO2.out _ H7.out.1 H7.out.2.2).mono ?_);rintro e w8 ⟨A8,c8,rfl,hc,hk,hb⟩);have H8:=Lib.hid (show Below w.heap.size w w8∧SeesF w8 (· < w8.heap.size) A7 k1∧SeesF w8 (· < w8.heap.size) A8 k2 from ⟨zaf H7.out.1 hb,H7.out.2.1.on hb,(hk.imp fun b hb2=>hb2.2).sees⟩);clear hc hk hb)
    | (go_at_call 11;((with_reducible refine (HO1.out _ H6.out.1 H6.out.2.1).mono ?_);rintro e w7 ⟨A7,c7,rfl,hc,hk,hb⟩);have H7:=Lib.hid (show Below w.heap.size w w7∧SeesF w7 (· < w7.heap.size) A7 k1∧SeesP w7 (· < w7.heap.size) A6 (Us cb) from ⟨zaf H6.out.1 hb,(hk.imp fun b hb2=>hb2.2).sees,SeesP.on2 H6.out.2.2.1 hb⟩);clear hc hk hb)
    | (go_at_call 5;((with_reducible refine (HAW.out _ H8.out.1).mono ?_);rintro e wz ⟨rfl,hb⟩);have HZ:=Lib.hid (zaf H8.out.1 hb);clear hb))
   go_ret
   exact ⟨rfl,HZ.out⟩
 have dlb:((lb:Int)==0)=false:=by simp;omega
 obtain ⟨n,k,q1,q2,q3,q4⟩:=HSM.out (by omega) hlb
 injection q1 with q1 q5
 injection q5 with q5 q6
 injection q2 with q2 q7
 injection q7 with q7 q8
 subst q1 q5 q6
 have q2:=q2.symm
 have q7:=q7.symm
 subst q2 q7 q8
 have hzz:z2=z1:=by rw [←HZZ.out.1,←HZZ.out.2]
 subst hzz
 have HSY:=Lib.hid (fun (A1 A2:Option Addr) (c1 c2:Nat) (u:World) (h1:SeesF u (· < u.heap.size) A1 k1) (h2:SeesF u (· < u.heap.size) A2 k1)=>same_yes 300 (by decide) k1 A1 A2 c1 c2 u _ _ q3 q4 h1 h2)
 clear q3 q4 HSM hlc hlb
 rw [HZZ.out.1] at HSY
 go_wp2_with (first
  | (go_at_call 11;((with_reducible refine (HO2.out _ H7.out.1 H7.out.2.2).mono ?_);rintro e w8 ⟨A8,c8,rfl,hc,hk,hb⟩);have H8:=Lib.hid (show Below w.heap.size w w8∧SeesF w8 (· < w8.heap.size) A7 k1∧SeesF w8 (· < w8.heap.size) A8 k1 from ⟨zaf H7.out.1 hb,H7.out.2.1.on hb,(hk.imp fun b hb2=>hb2.2).sees⟩);clear hc hk hb)
  | (go_at_call 11;((with_reducible refine (HO1.out _ H6.out.1 H6.out.2.1).mono ?_);rintro e w7 ⟨A7,c7,rfl,hc,hk,hb⟩);have H7:=Lib.hid (show Below w.heap.size w w7∧SeesF w7 (· < w7.heap.size) A7 k1∧SeesP w7 (· < w7.heap.size) A6 (Us cb) from ⟨zaf H6.out.1 hb,(hk.imp fun b hb2=>hb2.2).sees,SeesP.on2 H6.out.2.2.1 hb⟩);clear hc hk hb)
  | (go_at_call 5;((with_reducible refine (HAW.out _ H8.out.1).mono ?_);rintro e wz ⟨rfl,hb⟩);have HZ:=Lib.hid (show Below w.heap.size w wz∧SeesF wz (· < wz.heap.size) A7 k1∧SeesF wz (· < wz.heap.size) A8 k1 from ⟨zaf H8.out.1 hb,H8.out.2.1.on hb,H8.out.2.2.on hb⟩);clear hb)
  | (go_at_call 12;((with_reducible refine (HSY.out _ _ _ _ _ HZ.out.2.1 HZ.out.2.2).mono ?_);rintro e w9 ⟨rfl,hq⟩);have HQ:=Lib.hid (show Below w.heap.size w w9 from by obtain ⟨qn,hq⟩:=hq;rw [hq];exact zbq HZ.out.1 _);clear hq))
 go_ret
 exact ⟨by first | rfl | simp,HQ.out⟩
end Go.Proofs.YtnlhbknajdpnbaaGreatDoor
