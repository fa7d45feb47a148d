/-
  What is proved here: what the program's appendList appends, where there is room: the encodings of the objects; for objects that lie in memory.
-/
import Derived.Test.YtnlhbknajdpnbaaGreatDoorRows
import Derived.Test.YtnlhbknajdpnbaaGreatDoorF0
import Derived.Test.YtnlhbknajdpnbaaGreatDoorF3
import Derived.Laws.ResultCell
import Derived.Laws.Rows
import Derived.Test.YtnlhbknajdpnbaaGreatDoorF1
set_option linter.unusedVariables false
set_option linter.unusedSimpArgs false
namespace Go.Proofs.YtnlhbknajdpnbaaGreatDoor
open Go.RowKit
set_option maxRecDepth 8000
def enc : F → List UInt8
 | .nil=>[]
 | .cons t v k r=>tagL t.toNat++lenL (v.length+encN k)++v++enc k++enc r
theorem tagN_nat (t : Int) : tagN (t.toNat : Int) = tagN t := by
 unfold tagN
 by_cases h:255 < t
 · rw [if_pos h,if_pos (by omega)]
 · rw [if_neg h,if_neg (by omega)]
theorem zbu : ∀ f : F, (enc f).length = encN f
 | .nil=>rfl
 | .cons t v k r => by
   simp only [enc,encN,List.length_append,zbu k,zbu r,zdS,zdZ,tagN_nat]
   omega
def F.tags : F → Prop
 | .nil=>True
 | .cons t _ k r=>(0 < t∧t≤65535)∧k.tags∧r.tags
theorem Out.ge {w : World} {B g k cap : Nat} {l : List UInt8} (h : Out w B g k cap l) : B ≤ g ∧ g < w.heap.size := by
 rcases h.2 with ⟨h1,_⟩ | ⟨g',cap',cur,h1,h2,h3,_⟩
 · cases h1
 · injection h1 with h1 _ _
   injection h1 with h1
   injection h1 with h1
   subst h1
   refine ⟨h2,?_⟩
   rcases Nat.lt_or_ge g w.heap.size with h | h
   · exact h
   · rw [Array.getElem?_eq_none h] at h3;cases h3
theorem zau {a b : World} {g : Nat} (h : a.grownBy b (some g)) {p : Addr} (h1 : p.block < a.heap.size) (h2 : p.block ≠ g) : b.cell? p = a.cell? p :=
 by
 obtain ⟨_,_,_,_,h5⟩:=h
 exact World.cell?_of_block (w:=a) (h5 p.block h1 (by simpa using fun e=>h2 e))
def St (w0 : World) (B g k cap : Nat) (l : List UInt8) (N : Nat) (a b c : Value) (w : World) : Prop :=
 Out w B g k cap l∧w0.grownBy w (some g)∧(N≠g∧N < w.heap.size)∧w.cell? ⟨N,0,none⟩=some a∧w.cell? ⟨N,1,none⟩=some b∧w.cell? ⟨N,2,none⟩=some c
section
variable {w0 w w':World} {B g k k' cap N:Nat} {l l':List UInt8} {a b c:Value}
theorem St.new (ho : Out w B g k cap l) (hg : w0.grownBy w (some g)) (t : TypeId) : St w0 B g k cap l w.heap.size a b c (w.alloc (.cells #[a, b, c] t)) := by
 have hn:=World.news_of_block (w:=w.alloc (.cells #[a,b,c] t)) (heap_alloc_new w (.cells #[a,b,c] t))
 have:=ho.ge
 refine ⟨ho.alloc _,zae hg (zaB w _ (some g)),⟨by omega,by simp⟩,?_,?_,?_⟩
 · exact hn 0 a (by simp)
 · exact hn 1 b (by simp)
 · exact hn 2 c (by simp)
theorem St.puts (h : St w0 B g k cap l N a b c w) (ho : Out w' B g k' cap l') (hg : w.grownBy w' (some g)) : St w0 B g k' cap l' N a b c w' := by
 obtain ⟨h1,h2,h3,h4,h5,h6⟩:=h
 exact ⟨ho,zae h2 hg,⟨h3.1,Nat.lt_of_lt_of_le h3.2 hg.size⟩,(zau hg (p:=⟨N,0,none⟩) h3.2 h3.1).trans h4,(zau hg (p:=⟨N,1,none⟩) h3.2 h3.1).trans h5,(zau hg (p:=⟨N,2,none⟩) h3.2 h3.1).trans h6⟩
theorem St.below (h : St w0 B g k cap l N a b c w) (hb : Below w.heap.size w w') : St w0 B g k cap l N a b c w' :=
 h.puts (own_new h.1 (zaD hb)) (zaD hb)
theorem zgE {A : Option Addr} {f : F} (hg : w0.grownBy w (some g)) (hs : SeesF w0 (· < B) A f) (hB : B ≤ w0.heap.size) (hBg : B ≤ g) : SeesF w (· < B) A f :=
 hs.keep fun _ hq=>zau hg (Nat.lt_of_lt_of_le hq hB) (Nat.ne_of_lt (Nat.lt_of_lt_of_le hq hBg))
theorem grown_seesP {A : Option Addr} {cs : List Value} (hg : w0.grownBy w (some g)) (hs : SeesP w0 (· < B) A cs) (hB : B ≤ w0.heap.size) (hBg : B ≤ g) : SeesP w (· < B) A cs :=
 hs.keep fun _ hq=>zau hg (Nat.lt_of_lt_of_le hq hB) (Nat.ne_of_lt (Nat.lt_of_lt_of_le hq hBg))
end
theorem apl_none {w : World} {p : Nat → Prop} {Av : Option Addr} {cv : Nat} {v : List UInt8} (h : Av = none → cv = 0) (hs : SeesP w p Av (Us v)) : Av = none → v.length = 0 ∧ cv = 0 := by
 intro e
 subst e
 have:=hs.none_nil
 exact ⟨by simpa [Us] using this,h rfl⟩
def AplAll (n : Nat) : Prop := ∀ (f : F) (A : Option Addr) (c B g k cap : Nat) (l : List UInt8) (w : World), f.size < n → f.ok → f.tags → encN f ≤ 4096 → SeesF w (· < B) A f → B ≤ w.heap.size → Out w B g k cap l → k + encN f ≤ cap →
    Calls Tryz.prog 86 #[.slice (some ⟨g,0,none⟩) k cap,.slice A f.len c] w (Puts w B g (k+encN f) cap (l++enc f))
set_option maxHeartbeats 1000000 in
theorem app_list (n : Nat) (hb : n ≤ 1125899906842624) : AplAll n := by
 induction n with
 | zero=>intro f A c B g k cap l w hn;omega
 | succ n ih =>
   intro f A c B g k cap l w hn hok htg hbd hs hB hown hcap
   obtain ⟨i0,hi,hz0,hz1,hz2⟩:=info_parts zaW
   obtain ⟨cs,s1,s2⟩:=hs
   have IH:=Lib.hid (ih (by omega))
   have hSZ:=tlv_size n (by omega)
   have HSZ:=Lib.hid hSZ
   have hlen:=f.len_le_size
   have hBg:=hown.ge.1
   have HOK:=Lib.hid (show f.ok∧f.tags from ⟨hok,htg⟩)
   have S2:=Lib.hid s2
   have HO:=Lib.hid hown
   clear hok htg s2 ih hSZ hown
   go_enter Tryz.func86,Tryz.ntmps86
   go_wp2_with fail
   go_loopw [0, 9] (fun q i wr => ∃ (j m : Nat) (rest : F) (d : List UInt8), j + rest.len = f.len ∧ i = .int .i64 j ∧ q = .slice (some ⟨g, 0, none⟩) (k + m) cap ∧ m + encN rest = encN f ∧
    Hid (rest.ok∧rest.tags∧rest.size≤f.size∧HoldsP w (· < B) rest (cs.drop (3*j))∧d++enc rest=l++enc f∧Out wr B g (k+m) cap d∧w.grownBy wr (some g))) (fun _ i _=>f.len - (intOf i).toNat)
   case atStart=>exact ⟨0,0,f,l,by omega,rfl,rfl,by omega,Lib.hid ⟨HOK.out.1,HOK.out.2,Nat.le_refl _,S2.out,rfl,HO.out,World.grownBy.refl _ _⟩⟩
   case round =>
    clear S2 HOK HO
    obtain ⟨j,m,rest,d,hj,rfl,rfl,hm,HG⟩:=hrel
    cases rest with
    | nil =>
      have hm2:m=encN f:=hm
      have hk2:j=f.len:=hj
      have hp : Puts w B g (k + m) cap (l ++ enc f) (.returned (.slice (some ⟨g, 0, none⟩) (k + m) cap)) wr := by
       obtain ⟨_,_,_,_,e,ho,hg⟩:=HG.out
       have e2:d=l++enc f:=by simpa [enc] using e
       rw [e2] at ho
       exact ⟨rfl,ho,hg⟩
      have HP:=Lib.hid hp
      clear hj hm HG s1 hp
      subst hm2
      go_wp2_with fail
      go_ret
      exact HP.out
    | cons t v kk r =>
      obtain ⟨⟨⟨lo,hi2⟩,hvl,hko,hro⟩,⟨⟨t0,t1⟩,htk,htr⟩,hgs,hh,hd,ho,hg⟩:=HG.out
      obtain ⟨T,rfl⟩:=Int.eq_ofNat_of_zero_le (show 0≤t by omega)
      have hj1:j+r.len+1=f.len:=hj
      have hgs:kk.size+r.size+1≤f.size:=hgs
      obtain ⟨a,ha⟩ : ∃a,a=tagN T:=⟨_,rfl⟩
      obtain ⟨x,hx⟩ : ∃x,x=v.length+encN kk:=⟨_,rfl⟩
      have hm1:m+((a+1+lb x+x)+encN r)=encN f:=by rw [ha,hx];exact hm
      have hd1:d++(tagL T++lenL x++v++enc kk++enc r)=l++enc f:=by rw [←hd,hx];simp only [enc,Int.toNat_natCast]
      have ha2:a≤2:=by rw [ha];exact zfN T
      obtain ⟨b,off,Av,cv,Ak,ck,rfl,hp,g0,g1,g2,sv,sk,hr,hnv⟩:=zdt s1 hh
      have hp':b < w.heap.size:=Nat.lt_of_lt_of_le hp hB
      have hpg:b≠g:=Nat.ne_of_lt (Nat.lt_of_lt_of_le hp hBg)
      have g0:=(zau hg (p:=⟨b,off+j*3,none⟩) hp' hpg).trans g0
      have g1:=(zau hg (p:=⟨b,off+j*3+1,none⟩) hp' hpg).trans g1
      have g2:=(zau hg (p:=⟨b,off+j*3+2,none⟩) hp' hpg).trans g2
      have st:=St.new (a:=.int .i64 (T:Int)) (b:=.slice Av v.length cv) (c:=.slice Ak kk.len ck) ho hg 64
      obtain ⟨N,hN⟩ : ∃N,N=wr.heap.size:=⟨_,rfl⟩
      have ST:=Lib.hid st
      have HR:=Lib.hid (show r.ok∧r.tags∧HoldsP w (· < B) r (cs.drop (3*(j+1)))∧kk.ok∧kk.tags∧SeesP w (· < B) Av (Us v)∧SeesF w (· < B) Ak kk∧d++(tagL T++lenL x++v++enc kk++enc r)=l++enc f∧(Av=none→cv=0) from ⟨hro,htr,hr,hko,htk,sv,sk,hd1,hnv⟩)
      have HX:=Lib.hid hx
      have HA:=Lib.hid ha
      clear ha hx
      clear hj hm HG s1 hro htr hr hko htk sv sk hd hd1 st ho hg hh hnv hp hp' hpg
      go_wp2_with fail
      rw [←hN] at ST ⊢
      clear hN g0 g1 g2
      refine (app_tag T B g (k+m) cap d (by omega) (by have:=HA.out;omega) _ ST.out.1).mono ?_
      rintro e w1 ⟨rfl,ho,hg⟩
      have ST:=Lib.hid (ST.out.puts ho hg)
      obtain ⟨_,_,_,c0,c1,c2⟩:=ST.out
      rw [←HA.out] at ST ⊢
      clear ho hg
      go_wp2_with fail
      refine (zfz T v.length cv kk.len ck (encN kk) x Av Ak HX.out (by have:=HX.out;omega) _ (Lib.hid (HSZ.out.c (by omega) HR.out.2.2.2.1 (by have:=HX.out;omega) ((zgE ST.out.2.1 HR.out.2.2.2.2.2.2.1 hB hBg).imp fun _ h=>Nat.lt_of_lt_of_le h (Nat.le_trans hB ST.out.2.1.size)) (Below.refl _ _)))).mono ?_
      rintro e w2 ⟨rfl,hb2⟩
      have ST:=Lib.hid (ST.out.below hb2)
      clear c0 c1 c2 hb2
      obtain ⟨_,_,_,c0,c1,c2⟩:=ST.out
      go_wp2_with fail
      refine (app_length x B g (k+m+a) cap _ (by omega) (by omega) _ ST.out.1).mono ?_
      rintro e w3 ⟨rfl,ho,hg⟩
      have ST:=Lib.hid (ST.out.puts ho hg)
      clear c0 c1 c2 ho hg
      obtain ⟨_,_,_,c0,c1,c2⟩:=ST.out
      have HS:=Lib.hid (grown_seesP ST.out.2.1 HR.out.2.2.2.2.2.1 hB hBg)
      go_wp2_with (at_builtin;refine wpList_append_fits_any _ rfl (.tmp 21) (.tmp 23) 27 rfl B 5 i0 1 Tryz.underlying27 hi hz1 g (k+m+a+(1+lb x)) cap _ rfl ST.out.1 Av v.length cv (Us v) rfl (by simp [Us]) (apl_none HR.out.2.2.2.2.2.2.2.2 HS.out) HS.out.src (zcE _) (by have:=HX.out;omega) ?_;intro w4 ho hg;rw [←zaP] at ho;have ST:=Lib.hid (ST.out.puts ho hg);clear c0 c1 c2 ho hg;obtain ⟨_,_,_,c0,c1,c2⟩:=ST.out)
      have hi3:=IH.out kk Ak ck B g (k+m+a+(1+lb x)+v.length) cap _ w4 (by omega) HR.out.2.2.2.1 HR.out.2.2.2.2.1 (by have:=HX.out;omega) (zgE ST.out.2.1 HR.out.2.2.2.2.2.2.1 hB hBg) (Nat.le_trans hB ST.out.2.1.size) ST.out.1 (by have:=HX.out;omega)
      obtain ⟨M,hM⟩ : ∃M,M=m+(a+1+lb x+x):=⟨_,rfl⟩
      rw [show k+m+a+(1+lb x)+v.length+encN kk=k+M by have:=HX.out;omega] at hi3
      refine hi3.mono ?_
      rintro e w5 ⟨rfl,ho,hg⟩
      have HF:=Lib.hid (show _∧_ from ⟨ho,zae ST.out.2.1 hg⟩)
      clear c0 c1 c2 ho hg hi3 ST HS
      go_wp2_with fail
      go_roundw
      case rel=>exact ⟨j+1,M,r,_,by omega,by go_num,(by rw [hM]),by omega,Lib.hid ⟨HR.out.1,HR.out.2.1,by omega,HR.out.2.2.1,(by rw [←HR.out.2.2.2.2.2.2.2.1];simp only [List.append_assoc]),HF.out.1,HF.out.2⟩⟩
      case measure=>simp [intOf];omega
end Go.Proofs.YtnlhbknajdpnbaaGreatDoor
namespace Go.Proofs.YtnlhbknajdpnbaaGreatDoor
open Go.RowKit
theorem zai {w : World} {b i : Nat} {cs : Array Value} {t : TypeId} (h : w.heap[b]? = some (.cells cs t (0, 0))) (u : Value) : (w.setCell ⟨b, i, none⟩ u).heap[b]? = some (.cells (cs.setIfInBounds i u) t (0, 0)) := by
 have hlt:=lt_of_block h
 have h':w.heap[b]=.cells cs t (0,0):=by simpa [Array.getElem?_eq_getElem hlt] using h
 show (w.heap.modify b _)[b]? = _
 rw [Array.getElem?_eq_getElem (by simpa using hlt),Array.getElem_modify_self,h']
 rfl
theorem zfp {w : World} {b : Nat} {a : Addr} {o : Obj} (h : w.heap[b]? = some o) (hb : b ≠ a.block) (u : Value) : (w.setCell a u).heap[b]? = some o := by
 rw [Below.heap_setCell w a u b hb];exact h
theorem zaw {w : World} {b : Nat} {o : Obj} (h : w.heap[b]? = some o) (o2 : Obj) : (w.alloc o2).heap[b]? = some o := by
 rw [Below.heap_alloc w o2 b (lt_of_block h)];exact h
theorem zdz (w : World) (o o2 : Obj) : ((w.alloc o).alloc o2).heap[w.heap.size + 1]? = some o2 := by
 have:=heap_alloc_new (w.alloc o) o2
 simpa using this
theorem zbc {P : Program} {fn : Func} {p u : Tmp} {ty : TypeId} (h : fn.results = #[.cell p ty, .tmp u]) (tmps : Array Value) (w : World) (g : Nat) (t : TypeId) (cs : Array Value) (fr : Nat × Nat) (d : TypeDesc)
 (hp:tmps.getD p undef=.pointer (some ⟨g,0,none⟩)) (hg:w.heap[g]? = some (.cells cs t fr))
 (hu:P.underlying ty=some d) (hd:(match d with | .struct _ | .array _ _=>true | _=>false)=true) (hi:(P.info? ty).map (·.size)=some cs.size) :
 (results fn tmps).run P w=.ok (.tuple #[.agg cs,tmps.getD u undef]) w:=by
 have hp':tmps[p]?.getD undef=.pointer (some ⟨g,0,none⟩):=by simpa using hp
 rw [results_cell_tmp h]
 simp [hp',asAddr,run_loadVar_row w g t ty cs fr d hg hu hd hi,Result.andThen]
end Go.Proofs.YtnlhbknajdpnbaaGreatDoor
namespace Go.Proofs.YtnlhbknajdpnbaaGreatDoor
open Go.RowKit
set_option maxRecDepth 8000
def tagE : List UInt8 → Int
 | []=>6
 | [a]=>if a.toNat % 32=31 then 6 else if zaA a.toNat then 0 else 4
 | a::b::_=>if a.toNat % 32=31 then (if zaA ((a.toNat*256+b.toNat:Nat):Int) then 0 else 4) else if zaA a.toNat then 0 else 4
def tagV : List UInt8 → Nat
 | []=>0
 | [a]=>a.toNat
 | a::b::_=>if a.toNat % 32=31 then a.toNat*256+b.toNat else a.toNat
def numL_Hdr (l:List UInt8):Nat:=l.foldl (fun n c=>n*256+c.toNat) 0
theorem or_256 (a b : Nat) (ha : a < 4294967296) (hb : b < 256) : bits .or .i64 ((a : Int) * 256) (b : Int) = ((a * 256 + b : Nat) : Int) := by
 have h:=i64_or_nat (a*256) b (by omega) (by omega)
 have e : a * 256 ||| b = a * 256 + b := by
  have:=Nat.two_pow_add_eq_or_of_lt (i:=8) (b:=b) hb a
  rw [Nat.mul_comm] at this
  exact this.symm
 rw [e] at h
 simpa using h
theorem zbh {w : World} {p : Nat → Prop} {A : Option Addr} {x : List UInt8} {k : Nat} (h : SeesP w p A (Us x)) (hk : k < x.length) :
 ∃b off,A=some ⟨b,off,none⟩∧p b∧w.cell? ⟨b,off+k,none⟩=some (.int .u8 (x[k].toNat:Int)):=by
 rcases h with h | ⟨b,off,e,hp,hc⟩
 · have : x = [] := by simpa [Us] using h
   subst this;simp at hk
 · exact ⟨b,off,e,hp,(hc k (by rw [zat];exact hk)).trans (zeT hk)⟩
def TagIs (l:List UInt8) (w:World) (e:Ending) (w':World):Prop:=e=.returned (.tuple #[.int .i64 (if tagE l=0 then (tagV l:Int) else 0),.int .i64 (tagE l)])∧w'=w
theorem tag_bad {l : List UInt8} {x : Int} {w : World} (h : tagE l = x) (hx : x ≠ 0) : TagIs l w (.returned (.tuple #[.int .i64 0, .int .i64 x])) w := by
 unfold TagIs;rw [h,if_neg hx];exact ⟨rfl,rfl⟩
theorem tag_good {l : List UInt8} {t : Nat} {w : World} (h : tagE l = 0) (ht : tagV l = t) : TagIs l w (.returned (.tuple #[.int .i64 (t : Int), .int .i64 0])) w := by
 unfold TagIs;rw [h,if_pos rfl,ht];exact ⟨rfl,rfl⟩
set_option maxHeartbeats 400000 in
theorem read_tag (A : Option Addr) (c : Nat) (l : List UInt8) (w : World) (p : Nat → Prop) (hs : SeesP w p A (Us l)) (hl : l.length ≤ 140737488351232) :
 Calls Tryz.prog 118 #[.slice A l.length c] w (TagIs l w):=by
 cases l with
 | nil =>
   have hb:=tag_bad (w:=w) (show tagE []=6 from rfl) (by decide)
   have HB:=Lib.hid hb
   clear hb hs
   go_enter Tryz.func118,Tryz.ntmps118
   go_wp2_with fail
   go_ret2
   exact HB.out
 | cons a r =>
   obtain ⟨b,off,rfl,hp,g0⟩:=zbh hs (k:=0) (by simp)
   simp only [List.getElem_cons_zero,Nat.add_zero] at g0
   have ha:=UInt8.toNat_lt a
   obtain ⟨n,hn⟩ : ∃n,n=a.toNat:=⟨_,rfl⟩
   rw [←hn] at g0 ha
   have e31:=and_31 (t:=(n:Int)) (by omega) (by omega)
   have d0:(((a::r).length:Int)==0)=false:=by simp;omega
   have hv : ∀ (t : Nat) (q : Bool), t ≤ 65535 → zaA t = q → ∀ u, Calls Tryz.prog 120 #[.int .i64 (t : Int)] u fun e w' => e = .returned (.bool q) ∧ w' = u := fun t q ht hq u => by
    have:=zcQ t (by omega) (by omega) u
    rwa [hq] at this
   by_cases h31:n % 32=31
   · have d31 : ((n : Int) % 32 == 31) = true := by simp; omega
     cases r with
     | nil =>
       have hb:=tag_bad (w:=w) (show tagE [a]=6 by simp only [tagE];rw [←hn,if_pos h31]) (by decide)
       have HB:=Lib.hid hb
       clear hb hs hn hv h31
       go_enter Tryz.func118,Tryz.ntmps118
       go_wp2_with fail
       go_ret2
       exact HB.out
     | cons a2 r =>
       obtain ⟨b2,off2,e2,_,g1⟩:=zbh hs (k:=1) (by simp)
       injection e2 with e2
       injection e2 with e3 e4
       subst e3 e4
       simp only [List.getElem_cons_succ,List.getElem_cons_zero] at g1
       have ha2:=UInt8.toNat_lt a2
       obtain ⟨n2,hn2⟩ : ∃n,n=a2.toNat:=⟨_,rfl⟩
       rw [←hn2] at g1 ha2
       have eor:=or_256 n n2 (by omega) ha2
       obtain ⟨t,ht⟩ : ∃t,t=n*256+n2:=⟨_,rfl⟩
       rw [←ht] at eor
       have hx:tagE (a::a2::r)=if zaA t then 0 else 4:=by simp only [tagE];rw [←hn,←hn2,if_pos h31,←ht]
       have htv:tagV (a::a2::r)=t:=by simp only [tagV];rw [←hn,←hn2,if_pos h31,←ht]
       have d1:(((a::a2::r).length:Int)==1)=false:=by simp;omega
       cases hq:zaA t
       · have hb := tag_bad (w := w) (show tagE (a :: a2 :: r) = 4 by rw [hx, hq]; rfl) (by decide)
         have HB:=Lib.hid hb
         have HV:=Lib.hid (hv t _ (by omega) hq)
         clear hb hs hn hn2 hv h31 hx htv ht hq
         go_enter Tryz.func118,Tryz.ntmps118
         go_wp2_with (go_at_call 120;refine (HV.out _).mono ?_;rintro e w' ⟨rfl,rfl⟩)
         go_ret2
         exact HB.out
       · have hb := tag_good (w := w) (show tagE (a :: a2 :: r) = 0 by rw [hx, hq]; rfl) htv
         have HB:=Lib.hid hb
         have HV:=Lib.hid (hv t _ (by omega) hq)
         clear hb hs hn hn2 hv h31 hx htv ht hq
         go_enter Tryz.func118,Tryz.ntmps118
         go_wp2_with (go_at_call 120;refine (HV.out _).mono ?_;rintro e w' ⟨rfl,rfl⟩)
         go_ret2
         exact HB.out
   · have d31 : ((n : Int) % 32 == 31) = false := by simp; omega
     have hx:tagE (a::r)=if zaA n then 0 else 4:=by cases r <;> (simp only [tagE];rw [←hn,if_neg h31])
     have htv:tagV (a::r)=n:=by cases r <;> simp only [tagV,←hn,if_neg h31]
     cases hq:zaA n
     · have hb := tag_bad (w := w) (show tagE (a :: r) = 4 by rw [hx, hq]; rfl) (by decide)
       have HB:=Lib.hid hb
       have HV:=Lib.hid (hv n _ (by omega) hq)
       clear hb hs hn hv h31 hx htv hq
       go_enter Tryz.func118,Tryz.ntmps118
       go_wp2_with (go_at_call 120;refine (HV.out _).mono ?_;rintro e w' ⟨rfl,rfl⟩)
       go_ret2
       exact HB.out
     · have hb := tag_good (w := w) (show tagE (a :: r) = 0 by rw [hx, hq]; rfl) htv
       have HB:=Lib.hid hb
       have HV:=Lib.hid (hv n _ (by omega) hq)
       clear hb hs hn hv h31 hx htv hq
       go_enter Tryz.func118,Tryz.ntmps118
       go_wp2_with (go_at_call 120;refine (HV.out _).mono ?_;rintro e w' ⟨rfl,rfl⟩)
       go_ret2
       exact HB.out
end Go.Proofs.YtnlhbknajdpnbaaGreatDoor
namespace Go.Proofs.YtnlhbknajdpnbaaGreatDoor
open Go.RowKit
def hdrZ (l:List UInt8):Nat:=tagN (tagV l:Nat)+1
def hdrF (l:List UInt8):Nat:=(l.getD (hdrZ l - 1) 0).toNat
def hdrE (l : List UInt8) : Int :=
 if tagE l≠0 then tagE l else if l.length < hdrZ l then 6 else if 132 < hdrF l then 5 else if hdrF l≤127 then 0 else if l.length - hdrZ l < hdrF l - 128 then 6 else 0
def hdrN (l:List UInt8):Nat:=if hdrF l≤127 then hdrF l else numL_Hdr ((l.drop (hdrZ l)).take (hdrF l - 128))
def hdrS (l:List UInt8):Nat:=if hdrF l≤127 then hdrZ l else hdrZ l+(hdrF l - 128)
def hdrV (t f n s:Int):Value:=.agg #[.int .i64 t,.int .u8 f,.int .i64 n,.int .i64 s]
def zfP (l : List UInt8) (w : World) (e : Ending) (w' : World) : Prop :=
 (if hdrE l=0 then e=.returned (.tuple #[hdrV (tagV l) (hdrF l) (hdrN l) (hdrS l),.int .i64 0]) else e=.returned (.tuple #[hdrV 0 0 0 0,.int .i64 (hdrE l)]))∧Below w.heap.size w w'
theorem hdr_bad {l : List UInt8} {x : Int} {w w' : World} (h : hdrE l = x) (hx : x ≠ 0) (hb : Below w.heap.size w w') : zfP l w (.returned (.tuple #[hdrV 0 0 0 0, .int .i64 x])) w' := by
 unfold zfP;rw [h,if_neg hx];exact ⟨rfl,hb⟩
theorem hdr_good {l : List UInt8} {t f n s : Nat} {w w' : World} (h : hdrE l = 0) (h1 : tagV l = t) (h2 : hdrF l = f) (h3 : hdrN l = n) (h4 : hdrS l = s) (hb : Below w.heap.size w w') :
 zfP l w (.returned (.tuple #[hdrV t f n s,.int .i64 0])) w':=by
 unfold zfP;rw [h,if_pos rfl,h1,h2,h3,h4];exact ⟨rfl,hb⟩
theorem zaM {P : Program} {fn : Func} {p u v : Tmp} {ty : TypeId} (h : fn.results = #[.cell p ty, .tmp u, .tmp v]) (tmps : Array Value) (w : World) (g : Nat) (t : TypeId) (cs : Array Value) (fr : Nat × Nat) (d : TypeDesc)
 (hp:tmps.getD p undef=.pointer (some ⟨g,0,none⟩)) (hg:w.heap[g]? = some (.cells cs t fr))
 (hu:P.underlying ty=some d) (hd:(match d with | .struct _ | .array _ _=>true | _=>false)=true) (hi:(P.info? ty).map (·.size)=some cs.size) :
 (results fn tmps).run P w=.ok (.tuple #[.agg cs,tmps.getD u undef,tmps.getD v undef]) w:=by
 have hp':tmps[p]?.getD undef=.pointer (some ⟨g,0,none⟩):=by simpa using hp
 simp only [results,h]
 simp [hp',asAddr,run_loadVar_row w g t ty cs fr d hg hu hd hi,Result.andThen]
theorem zcm:(Tryz.prog.info? 137).map (·.size)=some 4:=by kernel_rfl
def HdrRel (w : World) (l : List UInt8) (t m z k n : Nat) (wr : World) : Prop :=
 n=numL_Hdr ((l.drop (z+1)).take k)∧Below w.heap.size w wr ∧
 wr.heap[w.heap.size]? = some (.cells #[.int .i64 0,.int .u8 0,.int .i64 0,.int .i64 0] 137 (0,0)) ∧
 wr.heap[w.heap.size+1]? = some (.cells #[.int .i64 t,.int .u8 ((128:Int)+m),.int .i64 n,.int .i64 ((z:Int)+1)] 137 (0,0))
theorem HdrRel.start (w : World) (l : List UInt8) (t m z : Nat) :
 HdrRel w l t m z 0 0 ((w.alloc (.cells #[.int .i64 0,.int .u8 0,.int .i64 0,.int .i64 0] 137)).alloc (.cells #[.int .i64 t,.int .u8 ((128:Int)+m),.int .i64 0,.int .i64 ((z:Int)+1)] 137)):=by
 refine ⟨by simp [numL_Hdr],((Below.refl _ _).alloc (Nat.le_refl _) _).alloc (by simp) _,zaw (heap_alloc_new w _) _,zdz w _ _⟩
theorem zdK {l : List UInt8} {k : Nat} (h : k < l.length) : numL_Hdr (l.take (k + 1)) = numL_Hdr (l.take k) * 256 + l[k].toNat := by
 rw [List.take_succ_eq_append_getElem h]
 unfold numL_Hdr
 rw [List.foldl_append]
 rfl
theorem foldl_lt : ∀ (l : List UInt8) (n k : Nat), n < 256 ^ k → l.foldl (fun n c => n * 256 + c.toNat) n < 256 ^ (k + l.length)
 | [],_,_,h=>h
 | a :: r, n, k, h => by
   have h2:=UInt8.toNat_lt a
   have:=foldl_lt r (n*256+a.toNat) (k+1) (by rw [Nat.pow_succ];omega)
   rw [List.length_cons,show k+(r.length+1)=k+1+r.length by omega]
   exact this
theorem zeP (l : List UInt8) : numL_Hdr l < 256 ^ l.length := by
 have:=foldl_lt l 0 0 (by decide)
 rw [Nat.zero_add] at this
 exact this
theorem HdrRel.step {w wr : World} {l : List UInt8} {t m z k n y : Nat} (h : HdrRel w l t m z k n wr) (hk : z + 1 + k < l.length) (hy : y = (l[z + 1 + k]'hk).toNat) :
 HdrRel w l t m z (k+1) (n*256+y) (wr.setCell ⟨w.heap.size+1,2,none⟩ (.int .i64 ((n:Int)*256+y))).drew:=by
 obtain ⟨h1,h2,h3,h4⟩:=h
 refine ⟨?_,(h2.setCell (p:=⟨w.heap.size+1,2,none⟩) (by simp) _).drew,zfp (a:=⟨w.heap.size+1,2,none⟩) h3 (by simp) _,?_⟩
 · rw [zdK (by rw [List.length_drop]; omega), ← h1, hy]
   simp [List.getElem_drop]
 · have := zai (i := 2) (w := wr) (b := w.heap.size + 1) h4 (.int .i64 ((n : Int) * 256 + y))
   have e:(((n*256+y:Nat)):Int)=(n:Int)*256+y:=by omega
   rw [e]
   exact this
set_option maxHeartbeats 1000000 in
set_option maxRecDepth 4000 in
theorem zgb (A : Option Addr) (c : Nat) (l : List UInt8) (w : World) (hs : SeesP w (· < w.heap.size) A (Us l)) (hl : l.length ≤ 140737488351232) :
 Calls Tryz.prog 103 #[.slice A l.length c] w (zfP l w):=by
 obtain ⟨x,hx⟩ : ∃x,x=tagE l:=⟨_,rfl⟩
 have hT:∀u,Below w.heap.size w u→Calls Tryz.prog 118 #[.slice A l.length c] u (TagIs l u):=fun u hu=>read_tag A c l u _ (hs.keep fun _ hq=>hu.cell hq) hl
 unfold TagIs at hT
 rw [←hx] at hT
 by_cases h1:x=0
 · subst h1
   rw [if_pos rfl] at hT
   obtain ⟨t,ht⟩ : ∃t,t=tagV l:=⟨_,rfl⟩
   rw [←ht] at hT
   obtain ⟨z,hz⟩ : ∃z,z=tagN (t:Int):=⟨_,rfl⟩
   have hzz:hdrZ l=z+1:=by unfold hdrZ;rw [←ht,←hz]
   have hz2:z≤2:=by rw [hz];exact zfN t
   have hG:∀u,Calls Tryz.prog 110 #[.int .i64 (t:Int)] u fun e w'=>e=.returned (.int .i64 (z:Int))∧w'=u:=fun u=>tag_sizeN t z hz u
   have HT:=Lib.hid hT
   have HG:=Lib.hid hG
   clear hT hG hz
   by_cases h2:l.length < z+1
   · have d2 : decide ((l.length : Int) < (z : Int) + 1) = true := by simp; omega
     have hd:∀w',Below w.heap.size w w'→zfP l w (.returned (.tuple #[hdrV 0 0 0 0,.int .i64 6])) w':=fun w' hw=>hdr_bad (by unfold hdrE;rw [if_neg (by omega),hzz,if_pos h2]) (by decide) hw
     have HD:=Lib.hid hd
     clear hd hs h2 hx ht hzz
     go_enter Tryz.func103,Tryz.ntmps103
     go_wp2_with (first | (go_at_call 118;refine (HT.out _ ((Below.refl _ _).alloc (Nat.le_refl _) _)).mono ?_;rintro e w' ⟨rfl,rfl⟩) | (go_at_call 110;refine (HG.out _).mono ?_;rintro e w' ⟨rfl,rfl⟩))
     first | (refine bodyPost_ret (zbc rfl _ _ _ _ _ _ _ rfl (heap_alloc_new _ _) Tryz.underlying137 rfl zcm) rfl ?_) | (refine bodyPost_ret (zbc rfl _ _ _ _ _ _ _ rfl (zaw (heap_alloc_new _ _) _) Tryz.underlying137 rfl zcm) rfl ?_)
     refine HD.out _ ?_
     repeat' (first | exact Below.refl _ _ | refine Below.setCell ?_ ?_ _ | refine Below.alloc ?_ ?_ _ | (simp;done))
   · have d2 : decide (l.length < z + 1) = false := by simpa using h2
     have d2':decide ((l.length:Int) < (z:Int)+1)=false:=by simp;omega
     have hlz:z < l.length:=by omega
     obtain ⟨b,off,rfl,hp,g0⟩:=zbh hs (k:=z) hlz
     obtain ⟨f,hf⟩ : ∃f,f=(l[z]'hlz).toNat:=⟨_,rfl⟩
     have hff:hdrF l=f:=by unfold hdrF;rw [hzz,hf];simp [List.getD,List.getElem?_eq_getElem hlz]
     have hf8:f < 256:=by rw [hf];exact UInt8.toNat_lt _
     rw [←hf] at g0
     by_cases h3:132 < f
     · have d3 : decide ((132 : Int) < (f : Int)) = true := by simp; omega
       have hd:∀w',Below w.heap.size w w'→zfP l w (.returned (.tuple #[hdrV 0 0 0 0,.int .i64 5])) w':=fun w' hw=>hdr_bad (by unfold hdrE;rw [if_neg (by omega),hzz,if_neg h2,hff,if_pos h3]) (by decide) hw
       have HD:=Lib.hid hd
       clear hd hs hf hff h2 h3 hx ht hzz
       go_enter Tryz.func103,Tryz.ntmps103
       go_wp2_with (first | (go_at_call 118;refine (HT.out _ ((Below.refl _ _).alloc (Nat.le_refl _) _)).mono ?_;rintro e w' ⟨rfl,rfl⟩) | (go_at_call 110;refine (HG.out _).mono ?_;rintro e w' ⟨rfl,rfl⟩))
       first | (refine bodyPost_ret (zbc rfl _ _ _ _ _ _ _ rfl (heap_alloc_new _ _) Tryz.underlying137 rfl zcm) rfl ?_) | (refine bodyPost_ret (zbc rfl _ _ _ _ _ _ _ rfl (zaw (heap_alloc_new _ _) _) Tryz.underlying137 rfl zcm) rfl ?_)
       refine HD.out _ ?_
       repeat' (first | exact Below.refl _ _ | refine Below.setCell ?_ ?_ _ | refine Below.alloc ?_ ?_ _ | (simp;done))
     · have d3 : decide ((132 : Int) < (f : Int)) = false := by simp; omega
       by_cases h4:f≤127
       · have d4 : decide ((f : Int) ≤ 127) = true := by simp; omega
         have hd : ∀ w', Below w.heap.size w w' → zfP l w (.returned (.tuple #[hdrV t f f ((z : Int) + 1), .int .i64 0])) w' := fun w' hw => by
          have e2:((z+1:Nat):Int)=(z:Int)+1:=by omega
          rw [←e2]
          exact hdr_good (by unfold hdrE;rw [if_neg (by omega),hzz,if_neg h2,hff,if_neg h3,if_pos h4]) ht.symm hff (by unfold hdrN;rw [hff,if_pos h4]) (by unfold hdrS;rw [hff,if_pos h4,hzz]) hw
         have HD:=Lib.hid hd
         clear hd hs hf hff h2 h3 h4 hx ht hzz
         go_enter Tryz.func103,Tryz.ntmps103
         go_wp2_with (first | (go_at_call 118;refine (HT.out _ ((Below.refl _ _).alloc (Nat.le_refl _) _)).mono ?_;rintro e w' ⟨rfl,rfl⟩) | (go_at_call 110;refine (HG.out _).mono ?_;rintro e w' ⟨rfl,rfl⟩))
         first | (refine bodyPost_ret (zbc rfl _ _ _ _ _ _ _ rfl (zaw (heap_alloc_new _ _) _) Tryz.underlying137 rfl zcm) rfl ?_)
         refine HD.out _ ?_
         repeat' (first | exact Below.refl _ _ | refine Below.setCell ?_ ?_ _ | refine Below.alloc ?_ ?_ _ | (simp;done))
       · have d4 : decide ((f : Int) ≤ 127) = false := by simp; omega
         by_cases h5:l.length - (z+1) < f - 128
         · have hE : hdrE l = 6 := by unfold hdrE; rw [if_neg (by omega), hzz, if_neg h2, hff, if_neg h3, if_neg h4, if_pos h5]
           obtain ⟨m,rfl⟩ : ∃m,f=128+m:=⟨f - 128,by omega⟩
           have g0:w.cell? ⟨b,off+z,none⟩=some (.int .u8 ((128:Int)+(m:Int))):=by rw [g0];simp
           have d3:decide ((132:Int) < (128:Int)+(m:Int))=false:=by simp;omega
           have d4:decide ((128:Int)+(m:Int)≤127)=false:=by simp;omega
           have d5:decide ((l.length:Int) - ((z:Int)+1) < (128:Int)+(m:Int) - 128)=true:=by simp;omega
           have hm:m≤4:=by omega
           clear h5
           have hd:∀w',Below w.heap.size w w'→zfP l w (.returned (.tuple #[hdrV 0 0 0 0,.int .i64 6])) w':=fun w' hw=>hdr_bad (by exact hE) (by decide) hw
           have HD:=Lib.hid hd
           clear hd hs hf hff h2 h3 h4 hx ht hzz hE hf8
           go_enter Tryz.func103,Tryz.ntmps103
           go_wp2_with (first | (go_at_call 118;refine (HT.out _ ((Below.refl _ _).alloc (Nat.le_refl _) _)).mono ?_;rintro e w' ⟨rfl,rfl⟩) | (go_at_call 110;refine (HG.out _).mono ?_;rintro e w' ⟨rfl,rfl⟩))
           first | (refine bodyPost_ret (zbc rfl _ _ _ _ _ _ _ rfl (heap_alloc_new _ _) Tryz.underlying137 rfl zcm) rfl ?_) | (refine bodyPost_ret (zbc rfl _ _ _ _ _ _ _ rfl (zaw (heap_alloc_new _ _) _) Tryz.underlying137 rfl zcm) rfl ?_)
           refine HD.out _ ?_
           repeat' (first | exact Below.refl _ _ | refine Below.setCell ?_ ?_ _ | refine Below.alloc ?_ ?_ _ | (simp;done))
         · obtain ⟨m, rfl⟩ : ∃ m, f = 128 + m := ⟨f - 128, by omega⟩
           have d5:decide ((l.length:Int) - ((z:Int)+1) < (m:Int))=false:=by simp;omega
           have HS:=Lib.hid hs
           have hm:m≤4:=by omega
           have g0:w.cell? ⟨b,off+z,none⟩=some (.int .u8 ((128:Int)+(m:Int))):=by rw [g0];simp
           have d3:decide ((132:Int) < (128:Int)+(m:Int))=false:=by simp;omega
           have d4:decide ((128:Int)+(m:Int)≤127)=false:=by simp;omega
           have hlz2:z+1+m≤l.length:=by omega
           have HF:=Lib.hid (show tagE l=0∧tagV l=t∧hdrZ l=z+1∧hdrF l=128+m from ⟨hx.symm,ht.symm,hzz,hff⟩)
           clear h2 h3 h4 h5 hs hf hf8 hff hx ht hzz
           go_enter Tryz.func103,Tryz.ntmps103
           go_wp2_with (first | (go_at_call 118;refine (HT.out _ ((Below.refl _ _).alloc (Nat.le_refl _) _)).mono ?_;rintro e w' ⟨rfl,rfl⟩) | (go_at_call 110;refine (HG.out _).mono ?_;rintro e w' ⟨rfl,rfl⟩))
           go_loopw [63] (fun i wr=>∃k n:Nat,k≤m∧i=.int .i64 k∧n < 4294967296∧Hid (HdrRel w l t m z k n wr)) (fun i _=>m - (intOf i).toNat)
           case atStart=>exact ⟨0,0,Nat.zero_le _,rfl,by decide,Lib.hid (HdrRel.start w l t m z)⟩
           case round =>
            obtain ⟨k,n,hk,rfl,hn,HR⟩:=hrel
            have hb:=HR.out.2.1
            have b1:=HR.out.2.2.2
            have c2:=cell_of_row wr (w.heap.size+1) 2 _ _ _ b1
            have c3:=cell_of_row wr (w.heap.size+1) 3 _ _ _ b1
            have f2:=frozen_of_row wr (w.heap.size+1) 2 _ _ b1
            simp only [List.getElem?_toArray,List.getElem?_cons_succ,List.getElem?_cons_zero] at c2 c3
            by_cases hlt:k < m
            · have hk2 : z + 1 + k < l.length := by omega
              obtain ⟨b2,off2,e2,_,g1⟩:=zbh HS.out (k:=z+1+k) hk2
              injection e2 with e2
              injection e2 with e3 e4
              subst e3 e4
              obtain ⟨y,hy⟩ : ∃y,y=(l[z+1+k]'hk2).toNat:=⟨_,rfl⟩
              have hy8:y < 256:=by rw [hy];exact UInt8.toNat_lt _
              rw [←hy] at g1
              have g1:=(hb.cell (p:=⟨b,off+(z+1+k),none⟩) hp).trans g1
              have eor:=or_256 n y hn hy8
              have hn2 : n * 256 + y < 4294967296 := by
               have:=zeP ((l.drop (z+1)).take (k+1))
               have e:=(HR.out.step hk2 hy).1
               rw [←e] at this
               refine Nat.lt_of_lt_of_le this ?_
               refine Nat.le_trans (Nat.pow_le_pow_right (by decide) (show _≤4 from ?_)) (by decide)
               rw [List.length_take];omega
              have HY:=Lib.hid hy
              clear hy b1 hb
              go_wp2_with fail
              go_region
              all_goals
               go_wp2_with fail
               go_roundw
               case rel=>exact ⟨k+1,n*256+y,by omega,by go_num,hn2,Lib.hid (HR.out.step hk2 HY.out)⟩
               case measure=>simp [intOf];omega
            · obtain rfl : k = m := by omega
              have c0:=cell_of_row wr (w.heap.size+1) 0 _ _ _ b1
              have c1:=cell_of_row wr (w.heap.size+1) 1 _ _ _ b1
              have f3:=frozen_of_row wr (w.heap.size+1) 3 _ _ b1
              have b0:=HR.out.2.2.1
              have q0:=cell_of_row wr w.heap.size 0 _ _ _ b0
              have q1:=cell_of_row wr w.heap.size 1 _ _ _ b0
              have q2:=cell_of_row wr w.heap.size 2 _ _ _ b0
              have q3:=cell_of_row wr w.heap.size 3 _ _ _ b0
              have r0:=frozen_of_row wr w.heap.size 0 _ _ b0
              have r1:=frozen_of_row wr w.heap.size 1 _ _ b0
              have r2:=frozen_of_row wr w.heap.size 2 _ _ b0
              have r3:=frozen_of_row wr w.heap.size 3 _ _ b0
              simp only [List.getElem?_toArray,List.getElem?_cons_succ,List.getElem?_cons_zero] at c0 c1 q0 q1 q2 q3
              have hE : hdrE l = 0 := by
               unfold hdrE
               rw [if_neg (by rw [HF.out.1];omega),HF.out.2.2.1,HF.out.2.2.2,if_neg (by omega),if_neg (by omega),if_neg (by omega),if_neg (by omega)]
              have hN : hdrN l = n := by
               unfold hdrN
               rw [HF.out.2.2.1,HF.out.2.2.2,if_neg (by omega),HR.out.1,show 128+k - 128=k by omega]
              have hS : hdrS l = z + 1 + k := by
               unfold hdrS
               rw [HF.out.2.2.1,HF.out.2.2.2,if_neg (by omega)];omega
              have hd : ∀ w', Below w.heap.size w w' → zfP l w (.returned (.tuple #[.agg #[.int .i64 t, .int .u8 ((128 : Int) + k), .int .i64 n, .int .i64 ((z : Int) + 1 + (128 + k - 128))], .int .i64 0])) w' := fun w' hw => by
               have h:=hdr_good hE HF.out.2.1 HF.out.2.2.2 hN hS hw
               have e1:((128+k:Nat):Int)=(128:Int)+k:=by omega
               have e2:((z+1+k:Nat):Int)=(z:Int)+1+(128+k - 128):=by omega
               rw [e1,e2] at h
               exact h
              have HD:=Lib.hid hd
              have HB:=Lib.hid hb
              clear b0 b1 hb hE hN hS hd
              go_wp2_with fail
              refine bodyPost_ret (zbc rfl _ _ _ _ _ _ _ rfl (zai (zai (zai (zai (zfp HR.out.2.2.1 (by simp) _) _) _) _) _) Tryz.underlying137 rfl zcm) rfl ?_
              refine HD.out _ ?_
              repeat' (first | exact HB.out | refine Below.setCell ?_ ?_ _ | (simp;done))
 · rw [if_neg h1] at hT
   have HT:=Lib.hid hT
   have d1:(x != 0)=true:=by simpa using h1
   have hd:∀w',Below w.heap.size w w'→zfP l w (.returned (.tuple #[hdrV 0 0 0 0,.int .i64 x])) w':=fun w' hw=>hdr_bad (by unfold hdrE;rw [if_pos (by omega)];exact hx.symm) h1 hw
   have HD:=Lib.hid hd
   clear hd hT hs hx h1
   go_enter Tryz.func103,Tryz.ntmps103
   go_wp2_with (go_at_call 118;refine (HT.out _ ((Below.refl _ _).alloc (Nat.le_refl _) _)).mono ?_;rintro e w' ⟨rfl,rfl⟩)
   first | (refine bodyPost_ret (zbc rfl _ _ _ _ _ _ _ rfl (heap_alloc_new _ _) Tryz.underlying137 rfl zcm) rfl ?_) | (refine bodyPost_ret (zbc rfl _ _ _ _ _ _ _ rfl (zaw (heap_alloc_new _ _) _) Tryz.underlying137 rfl zcm) rfl ?_)
   refine HD.out _ ?_
   repeat' (first | exact Below.refl _ _ | refine Below.setCell ?_ ?_ _ | refine Below.alloc ?_ ?_ _ | (simp;done))
end Go.Proofs.YtnlhbknajdpnbaaGreatDoor
