/-
  What is proved here: plain words for files: their errors, what is found, what is read; and how they lie in memory. Nothing of the program's functions is used.
-/
import Derived.Test.YtkdlfbggddllhaaPG2
set_option linter.unusedVariables false
set_option linter.unusedSimpArgs false
namespace Go.Proofs.Ytkdlfbggddllhaa
open Go.RowKit
set_option maxRecDepth 8000
structure Fw where
 id:Int
 sh:Int
 A:Option Addr
 c:Nat
 lv:Int
 rt:Int
 d:List UInt8
def zerF:Fw:=⟨0,0,none,0,0,0,[]⟩
instance:Inhabited Fw:=⟨zerF⟩
structure Aw where
 NA:Option Addr
 nc:Nat
 nm:List UInt8
 FA:Option Addr
 fc:Nat
 fs:List Fw
def zerA:Aw:=⟨none,0,[],none,0,[]⟩
instance:Inhabited Aw:=⟨zerA⟩
structure Gw where
 RA:Option Addr
 rc:Nat
 root:List Fw
 AA:Option Addr
 ac:Nat
 apps:List Aw
def Fw.cs (x:Fw):List Value:=[.int .i64 x.id,.int .i64 x.sh,.slice x.A x.d.length x.c,.int .i64 x.lv,.int .i64 x.rt]
def Aw.cs (a:Aw):List Value:=[.slice a.NA a.nm.length a.nc,.slice a.FA a.fs.length a.fc]
def Gw.cs (G:Gw):List Value:=[.slice G.RA G.root.length G.rc,.slice G.AA G.apps.length G.ac]
theorem Fw.cs_len (x:Fw):x.cs.length=5:=rfl
theorem Aw.cs_len (x:Aw):x.cs.length=2:=rfl
theorem Gw.cs_len (x:Gw):x.cs.length=2:=rfl
theorem Fw.cs_one (x : Fw) : ∀ u ∈ x.cs, u.oneCell' = true := by
 intro u hu
 simp only [Fw.cs,List.mem_cons,List.not_mem_nil,or_false] at hu
 rcases hu with rfl | rfl | rfl | rfl | rfl <;> rfl
theorem Aw.cs_one (x : Aw) : ∀ u ∈ x.cs, u.oneCell' = true := by
 intro u hu
 simp only [Aw.cs,List.mem_cons,List.not_mem_nil,or_false] at hu
 rcases hu with rfl | rfl <;> rfl
theorem Gw.cs_one (x : Gw) : ∀ u ∈ x.cs, u.oneCell' = true := by
 intro u hu
 simp only [Gw.cs,List.mem_cons,List.not_mem_nil,or_false] at hu
 rcases hu with rfl | rfl <;> rfl
def zaK {α : Type} (f : α → List Value) : List α → List Value
 | []=>[]
 | x::r=>f x++zaK f r
section
variable {α:Type} {f:α→List Value} {k:Nat}
theorem rows_len (hf : ∀ x, (f x).length = k) : ∀ l : List α, (zaK f l).length = k * l.length
 | []=>rfl
 | x::r=>by simp only [zaK,List.length_append,List.length_cons,hf];rw [rows_len hf r,Nat.mul_succ];omega
theorem rows_get (hf : ∀ x, (f x).length = k) : ∀ {l : List α} {j : Nat} {x : α}, l[j]? = some x → ∀ i, i < k → (zaK f l)[j * k + i]? = (f x)[i]?
 | [],j,x,h=>by simp at h
 | y :: r, 0, x, h => by
   intro i hi
   have:y=x:=by simpa using h
   subst this
   rw [zaK,Nat.zero_mul,Nat.zero_add,List.getElem?_append,if_pos (by rw [hf];exact hi)]
 | y :: r, j + 1, x, h => by
   intro i hi
   have h:r[j]? = some x:=by simpa using h
   rw [zaK,List.getElem?_append,if_neg (by rw [hf,Nat.succ_mul];omega),hf,show (j+1)*k+i - k=j*k+i by rw [Nat.succ_mul];omega]
   exact rows_get hf h i hi
theorem zaZ (hf : ∀ x, (f x).length = k) : ∀ (l : List α) (j : Nat), zaK f (l.take j) = (zaK f l).take (k * j)
 | [],j=>by simp [zaK]
 | y::r,0=>by simp [zaK]
 | y :: r, j + 1 => by
   simp only [List.take_succ_cons,zaK]
   rw [zaZ hf r j,List.take_append,hf,List.take_of_length_le (l:=f y) (by rw [hf,Nat.mul_succ];omega),show k*(j+1) - k=k*j by rw [Nat.mul_succ];omega]
theorem row_at (hf : ∀ x, (f x).length = k) {w : World} {p : Nat → Prop} {A : Option Addr} {l : List α} {x : α} {j : Nat} (h : SeesP w p A (zaK f l)) (hx : l[j]? = some x) (hk : 0 < k) : ∃ b off, A = some ⟨b, off, none⟩ ∧ p b ∧ w.rangeAt b (off + j * k) (f x) := by
 have hj:=(List.getElem?_eq_some_iff.1 hx).1
 have hjk:(j+1)*k≤k*l.length:=by rw [Nat.mul_comm k];exact Nat.mul_le_mul_right _ hj
 have hj2:(j+1)*k=j*k+k:=Nat.succ_mul j k
 rcases h with h | ⟨b,off,rfl,hb,hc⟩
 · have := rows_len hf l
   rw [h] at this
   simp only [List.length_nil] at this
   omega
 · refine ⟨b, off, rfl, hb, fun i u hu => ?_⟩
   have hi : i < k := by
    have:=(List.getElem?_eq_some_iff.1 hu).1
    rwa [hf] at this
   rw [Nat.add_assoc,hc _ (by rw [rows_len hf];omega),rows_get hf hx i hi,hu]
end
def Fcs (l:List Fw):List Value:=zaK Fw.cs l
def Acs (l:List Aw):List Value:=zaK Aw.cs l
theorem zbm {w : World} {p : Nat → Prop} {A : Option Addr} {cs : List Value} (h : SeesP w p A cs) (k : Nat) : SeesP w p A (cs.take k) := by
 rcases h with h | ⟨b,off,e,hp,hc⟩
 · rw [h,List.take_nil];exact .inl rfl
 · refine .inr ⟨b, off, e, hp, fun j hj => ?_⟩
   rw [List.length_take] at hj
   rw [hc j (by omega),List.getElem?_take,if_pos (by omega)]
def FwIn (w:World) (p:Nat→Prop) (x:Fw):Prop:=SeesP w p x.A (Us x.d)∧x.d.length≤x.c∧(x.A=none→x.c=0)
def SeesU (w:World) (p:Nat→Prop) (A:Option Addr) (c:Nat) (l:List Fw):Prop:=SeesP w p A (Fcs l)∧(∀x∈l,FwIn w p x)∧l.length≤c∧(A=none→c=0)
def AwIn (w:World) (p:Nat→Prop) (a:Aw):Prop:=(SeesP w p a.NA (Us a.nm)∧a.nm.length≤a.nc∧(a.NA=none→a.nc=0))∧SeesU w p a.FA a.fc a.fs
def SeesK (w:World) (p:Nat→Prop) (A:Option Addr) (c:Nat) (l:List Aw):Prop:=SeesP w p A (Acs l)∧(∀x∈l,AwIn w p x)∧l.length≤c∧(A=none→c=0)
def SeesW (w:World) (p:Nat→Prop) (G:Gw):Prop:=SeesU w p G.RA G.rc G.root∧SeesK w p G.AA G.ac G.apps
section
variable {w w':World} {p p':Nat→Prop} {A:Option Addr} {c:Nat} {l:List Fw} {K:List Aw} {x:Fw} {a:Aw} {G:Gw}
theorem FwIn.keep (h:FwIn w p x) (hk:∀q:Addr,p q.block→w'.cell? q=w.cell? q):FwIn w' p x:=⟨h.1.keep hk,h.2⟩
theorem FwIn.imp (h:FwIn w p x) (hp:∀b,p b→p' b):FwIn w p' x:=⟨h.1.imp hp,h.2⟩
theorem SeesU.keep (h:SeesU w p A c l) (hk:∀q:Addr,p q.block→w'.cell? q=w.cell? q):SeesU w' p A c l:=⟨h.1.keep hk,fun x hx=>(h.2.1 x hx).keep hk,h.2.2⟩
theorem SeesU.imp (h:SeesU w p A c l) (hp:∀b,p b→p' b):SeesU w p' A c l:=⟨h.1.imp hp,fun x hx=>(h.2.1 x hx).imp hp,h.2.2⟩
theorem AwIn.keep (h:AwIn w p a) (hk:∀q:Addr,p q.block→w'.cell? q=w.cell? q):AwIn w' p a:=⟨⟨h.1.1.keep hk,h.1.2⟩,h.2.keep hk⟩
theorem AwIn.imp (h:AwIn w p a) (hp:∀b,p b→p' b):AwIn w p' a:=⟨⟨h.1.1.imp hp,h.1.2⟩,h.2.imp hp⟩
theorem SeesK.keep (h:SeesK w p A c K) (hk:∀q:Addr,p q.block→w'.cell? q=w.cell? q):SeesK w' p A c K:=⟨h.1.keep hk,fun x hx=>(h.2.1 x hx).keep hk,h.2.2⟩
theorem SeesK.imp (h:SeesK w p A c K) (hp:∀b,p b→p' b):SeesK w p' A c K:=⟨h.1.imp hp,fun x hx=>(h.2.1 x hx).imp hp,h.2.2⟩
theorem SeesW.keep (h:SeesW w p G) (hk:∀q:Addr,p q.block→w'.cell? q=w.cell? q):SeesW w' p G:=⟨h.1.keep hk,h.2.keep hk⟩
theorem SeesW.imp (h:SeesW w p G) (hp:∀b,p b→p' b):SeesW w p' G:=⟨h.1.imp hp,h.2.imp hp⟩
theorem FwIn.on (h:FwIn w (· < w.heap.size) x) (hb:Below w.heap.size w w'):FwIn w' (· < w'.heap.size) x:=(h.keep fun _ hq=>hb.cell hq).imp fun _ h2=>Nat.lt_of_lt_of_le h2 hb.size
theorem SeesU.on (h:SeesU w (· < w.heap.size) A c l) (hb:Below w.heap.size w w'):SeesU w' (· < w'.heap.size) A c l:=(h.keep fun _ hq=>hb.cell hq).imp fun _ h2=>Nat.lt_of_lt_of_le h2 hb.size
theorem AwIn.on (h:AwIn w (· < w.heap.size) a) (hb:Below w.heap.size w w'):AwIn w' (· < w'.heap.size) a:=(h.keep fun _ hq=>hb.cell hq).imp fun _ h2=>Nat.lt_of_lt_of_le h2 hb.size
theorem SeesK.on (h:SeesK w (· < w.heap.size) A c K) (hb:Below w.heap.size w w'):SeesK w' (· < w'.heap.size) A c K:=(h.keep fun _ hq=>hb.cell hq).imp fun _ h2=>Nat.lt_of_lt_of_le h2 hb.size
theorem SeesW.on (h:SeesW w (· < w.heap.size) G) (hb:Below w.heap.size w w'):SeesW w' (· < w'.heap.size) G:=(h.keep fun _ hq=>hb.cell hq).imp fun _ h2=>Nat.lt_of_lt_of_le h2 hb.size
theorem SeesU.take (h:SeesU w p A c l) (j:Nat):SeesU w p A c (l.take j):=⟨by rw [Fcs,zaZ Fw.cs_len];exact zbm h.1 _,fun x hx=>h.2.1 x (List.mem_of_mem_take hx),Nat.le_trans (by rw [List.length_take];omega) h.2.2.1,h.2.2.2⟩
theorem SeesK.take (h:SeesK w p A c K) (j:Nat):SeesK w p A c (K.take j):=⟨by rw [Acs,zaZ Aw.cs_len];exact zbm h.1 _,fun x hx=>h.2.1 x (List.mem_of_mem_take hx),Nat.le_trans (by rw [List.length_take];omega) h.2.2.1,h.2.2.2⟩
theorem SeesU.nil_:SeesU w p none 0 []:=⟨.inl rfl,(fun x h=>by cases h),Nat.le_refl _,fun _=>rfl⟩
theorem SeesK.nil_:SeesK w p none 0 []:=⟨.inl rfl,(fun x h=>by cases h),Nat.le_refl _,fun _=>rfl⟩
theorem fw_at (h:SeesU w p A c l) {j:Nat} (hx:l[j]? = some x):∃b off,A=some ⟨b,off,none⟩∧p b∧w.rangeAt b (off+j*5) x.cs:=row_at Fw.cs_len h.1 hx (by decide)
theorem aw_at (h:SeesK w p A c K) {j:Nat} (hx:K[j]? = some a):∃b off,A=some ⟨b,off,none⟩∧p b∧w.rangeAt b (off+j*2) a.cs:=row_at Aw.cs_len h.1 hx (by decide)
end
def rgB (n:Int):Bool:=decide (0≤n) && decide (n≤15)
def cndB (lv rt:Int):Bool:=if lv=3 then rgB rt else decide (0≤lv) && (decide (lv≤4) && decide (rt=0))
def rngF (x:Fw):Bool:=decide (1≤x.id) && (decide (x.id≤65535) && (decide (0≤x.sh) && (decide (x.sh≤30) && cndB x.lv x.rt)))
def takB (y x:Fw):Bool:=decide (x.id=y.id) || (decide (x.sh≠0) && decide (x.sh=y.sh))
def oneF (p:List Fw) (x:Fw):Int:=if rngF x=false then 3 else if 4096 < x.d.length then 2 else if p.any (takB x)=true then 15 else 0
def chF : List Fw → List Fw → Int
 | _,[]=>0
 | p,x::r=>if oneF p x≠0 then oneF p x else chF (p++[x]) r
def lisE (l:List Fw):Int:=if 24 < l.length then 2 else chF [] l
theorem chF_at {l : List Fw} {j : Nat} {x : Fw} (h : l[j]? = some x) : chF (l.take j) (l.drop j) = if oneF (l.take j) x ≠ 0 then oneF (l.take j) x else chF (l.take (j + 1)) (l.drop (j + 1)) := by
 have hj:=(List.getElem?_eq_some_iff.1 h).1
 have e:l[j]=x:=(List.getElem?_eq_some_iff.1 h).2
 rw [List.drop_eq_getElem_cons hj,e,List.take_add_one,h]
 rfl
def oneA (p:List Aw) (a:Aw):Int:=if a.nm.length=0∨16 < a.nm.length then 2 else if p.any (fun b=>sameB b.nm a.nm)=true then 15 else lisE a.fs
def chkA : List Aw → List Aw → Int
 | _,[]=>0
 | p,x::r=>if oneA p x≠0 then oneA p x else chkA (p++[x]) r
theorem chkA_at {l : List Aw} {j : Nat} {x : Aw} (h : l[j]? = some x) : chkA (l.take j) (l.drop j) = if oneA (l.take j) x ≠ 0 then oneA (l.take j) x else chkA (l.take (j + 1)) (l.drop (j + 1)) := by
 have hj:=(List.getElem?_eq_some_iff.1 h).1
 have e:l[j]=x:=(List.getElem?_eq_some_iff.1 h).2
 rw [List.drop_eq_getElem_cons hj,e,List.take_add_one,h]
 rfl
def valE (G:Gw):Int:=if 4 < G.apps.length then 2 else if lisE G.root≠0 then lisE G.root else chkA [] G.apps
theorem chF_ok : ∀ {r p : List Fw}, chF p r = 0 → ∀ x ∈ r, x.d.length ≤ 4096
 | [],_,_,x,h=>by cases h
 | y :: r, p, h, x, hx => by
   unfold chF at h
   split at h
   · rename_i e;exact absurd h e
   · rename_i e
     rcases List.mem_cons.1 hx with rfl | hx
     · unfold oneF at e
       split at e
       · exact absurd (by decide:(3:Int)≠0) e
       · split at e
         · exact absurd (by decide:(2:Int)≠0) e
         · omega
     · exact chF_ok h x hx
theorem lisE_ok {l : List Fw} (h : lisE l = 0) : l.length ≤ 24 ∧ ∀ x ∈ l, x.d.length ≤ 4096 := by
 unfold lisE at h
 split at h
 · cases h
 · exact ⟨by omega,chF_ok h⟩
theorem chkA_ok : ∀ {r p : List Aw}, chkA p r = 0 → ∀ x ∈ r, (1 ≤ x.nm.length ∧ x.nm.length ≤ 16) ∧ lisE x.fs = 0
 | [],_,_,x,h=>by cases h
 | y :: r, p, h, x, hx => by
   unfold chkA at h
   split at h
   · rename_i e;exact absurd h e
   · rename_i e
     rcases List.mem_cons.1 hx with rfl | hx
     · unfold oneA at e
       split at e
       · exact absurd (by decide:(2:Int)≠0) e
       · split at e
         · exact absurd (by decide:(15:Int)≠0) e
         · exact ⟨by omega,by omega⟩
     · exact chkA_ok h x hx
theorem valE_ok {G : Gw} (h : valE G = 0) : G.apps.length ≤ 4 ∧ lisE G.root = 0 ∧ ∀ x ∈ G.apps, (1 ≤ x.nm.length ∧ x.nm.length ≤ 16) ∧ lisE x.fs = 0 := by
 unfold valE at h
 split at h
 · cases h
 · split at h
   · rename_i e;exact absurd h e
   · rename_i e;exact ⟨by omega,by omega,chkA_ok h⟩
def lstA (G:Gw) (app:Int):Option Addr:=if app < 0 then G.RA else (G.apps.getD app.toNat zerA).FA
def lstC (G:Gw) (app:Int):Nat:=if app < 0 then G.rc else (G.apps.getD app.toNat zerA).fc
def lstL (G:Gw) (app:Int):List Fw:=if app < 0 then G.root else (G.apps.getD app.toNat zerA).fs
def atE (G:Gw) (app file:Int):Int:=if valE G≠0∨app < -1∨(G.apps.length:Int)≤app∨file < -1∨((lstL G app).length:Int)≤file then 14 else 0
def fstP {α : Type} (f : α → Bool) : Nat → List α → Int
 | _,[]=>-1
 | j,x::r=>if f x=true then (j:Int) else fstP f (j+1) r
theorem fstP_at {α : Type} {f : α → Bool} {l : List α} {j : Nat} {x : α} (h : l[j]? = some x) : fstP f j (l.drop j) = if f x = true then (j : Int) else fstP f (j + 1) (l.drop (j + 1)) := by
 have hj:=(List.getElem?_eq_some_iff.1 h).1
 have e:l[j]=x:=(List.getElem?_eq_some_iff.1 h).2
 rw [List.drop_eq_getElem_cons hj,e]
 rfl
theorem fstP_any {α : Type} {f : α → Bool} : ∀ (l : List α) (j : Nat), decide (0 ≤ fstP f j l) = l.any f
 | [],j=>rfl
 | x :: r, j => by
   unfold fstP
   rw [List.any_cons]
   split
   · rename_i h;rw [h];simp
   · rename_i h;rw [fstP_any r (j+1)];simp [h]
def idB (id:Int) (x:Fw):Bool:=decide (x.id=id)
def fndE (G:Gw) (app file:Int) (f:Fw→Bool):Int:=if atE G app file≠0 then 14 else if fstP f 0 (lstL G app) < 0 then 16 else 0
def fndP (G:Gw) (app file:Int) (f:Fw→Bool):Int×Int:=if fndE G app file f=0 then (app,fstP f 0 (lstL G app)) else (0,0)
def selE (G:Gw) (app file:Int):Int:=if atE G app file≠0 then 14 else if file < 0 then 16 else 0
def selF (G:Gw) (app file:Int):Fw:=if selE G app file=0 then (lstL G app).getD file.toNat zerF else zerF
structure Sta where
 pw:Int
 ba:Bool
 ch:Bool
 te:Bool
 rs:Int
def Sta.cs (s:Sta):List Value:=[.int .i64 s.pw,.bool s.ba,.bool s.ch,.bool s.te,.int .i64 s.rs]
theorem Sta.cs_len (s:Sta):s.cs.length=5:=rfl
theorem Sta.cs_one (x : Sta) : ∀ u ∈ x.cs, u.oneCell' = true := by
 intro u hu
 simp only [Sta.cs,List.mem_cons,List.not_mem_nil,or_false] at hu
 rcases hu with rfl | rfl | rfl | rfl | rfl <;> rfl
def pwdB (n:Int):Bool:=decide (n=1) || (decide (n=2) || decide (n=3))
def bitB (z n:Int):Bool:=decide (z / 2 ^ n.toNat % 2=1)
def alwB (lv rt:Int) (s:Sta):Bool:=if lv=0 then true else if lv=1 then pwdB s.pw else if lv=2 then pwdB s.pw && s.ch else if lv=3 then (pwdB s.pw && s.ch) && (s.te && (rgB rt && bitB s.rs rt)) else false
def redE (G:Gw) (app file:Int) (s:Sta) (off n:Int):Int:=if selE G app file≠0 then selE G app file else if alwB (selF G app file).lv (selF G app file).rt s=false then 19 else if n < 1∨4096 < n∨off < 0∨((selF G app file).d.length:Int) < off then 3 else 0
def redV (G:Gw) (app file:Int) (s:Sta) (off n:Int):List UInt8:=if redE G app file s off n=0 then ((selF G app file).d.drop off.toNat).take n.toNat else []
def redB (G:Gw) (app file:Int) (s:Sta) (off n:Int):Bool:=if redE G app file s off n=0 then decide (((selF G app file).d.length:Int)≤off+n) else false
end Go.Proofs.Ytkdlfbggddllhaa
