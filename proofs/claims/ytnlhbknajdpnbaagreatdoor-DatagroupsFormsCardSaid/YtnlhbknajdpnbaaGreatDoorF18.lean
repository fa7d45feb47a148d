/-
  What is proved here: what the reference's check returns.
-/
import Derived.Test.YtnlhbknajdpnbaaGreatDoorRows
import Derived.Test.YtnlhbknajdpnbaaGreatDoorF0
import Derived.Test.YtnlhbknajdpnbaaGreatDoorF3
import Derived.Test.YtnlhbknajdpnbaaGreatDoorF9
import Derived.Test.YtnlhbknajdpnbaaGreatDoorF17
set_option linter.unusedVariables false
set_option linter.unusedSimpArgs false
namespace Go.Proofs.YtnlhbknajdpnbaaGreatDoor
open Go.RowKit
set_option maxRecDepth 8000
def zdi (f:F) (d:Int) (w:World) (e:Ending) (w':World):Prop:=e=.returned (.int .i64 (chkE f d))∧Below w.heap.size w w'
set_option maxHeartbeats 1000000 in
theorem ref_check (n : Nat) : ∀ (f : F) (A : Option Addr) (c : Nat) (d : Int) (w : World), f.size < n → n ≤ 1125899906842624 → f.ok → 0 ≤ d → d ≤ 9 → SeesF w (· < w.heap.size) A f →
 Calls Tryz.prog 80 #[.slice A f.len c,.int .i64 d] w (zdi f d w):=by
 induction n with
 | zero=>intro f A c d w hn;omega
 | succ n ih =>
   intro f A c d w hn hb hok d0 d9 hs
   obtain ⟨cs,s1,s2⟩:=hs
   have hlen:=f.len_le_size
   have HOK:=Lib.hid hok
   have S2:=Lib.hid s2
   have S1:=Lib.hid s1
   have IH:=Lib.hid ih
   clear hok s2 ih s1
   go_enter Tryz.func80,Tryz.ntmps80
   go_wp2_with fail
   go_loopw [5] (fun i wr=>∃(k:Nat) (g:F),k+g.len=f.len∧i=.int .i64 k∧Hid (g.ok∧g.size≤f.size∧HoldsP w (· < w.heap.size) g (cs.drop (3*k))∧chkE f d=chkE g d∧Below w.heap.size w wr)) (fun i _=>f.len - (intOf i).toNat)
   case atStart=>exact ⟨0,f,by omega,rfl,Lib.hid ⟨HOK.out,Nat.le_refl _,S2.out,rfl,Below.refl _ _⟩⟩
   case round =>
    clear S2 HOK
    obtain ⟨k,g,hk,rfl,HG⟩:=hrel
    cases g with
    | nil =>
      have HD:=Lib.hid (show zdi f d w (.returned (.int .i64 0)) wr from ⟨by rw [HG.out.2.2.2.1];rfl,HG.out.2.2.2.2⟩)
      have hk2:k=f.len:=hk
      clear hk HG
      go_wp2_with fail
      go_ret
      exact HD.out
    | cons t v kk r =>
      have hk1:k+r.len+1=f.len:=hk
      have hgs:kk.size+r.size+1≤f.size:=HG.out.2.1
      have hlk:=kk.len_le_size
      obtain ⟨lo,hi⟩:=HG.out.1.1
      obtain ⟨b,off,Av,cv,Ak,ck,rfl,hp,g0,g1,g2,sv,sk,hr,hnv⟩:=zdt S1.out HG.out.2.2.1
      have hB:=HG.out.2.2.2.2
      have y0:=(hB.cell (p:=⟨b,off+k*3,none⟩) hp).trans g0
      have y1:=(hB.cell (p:=⟨b,off+k*3+1,none⟩) hp).trans g1
      have y2:=(hB.cell (p:=⟨b,off+k*3+2,none⟩) hp).trans g2
      have HR:=Lib.hid hr
      have HK:=Lib.hid (show SeesF wr (· < wr.heap.size) Ak kk from (sk.keep fun _ hq=>hB.cell hq).imp fun b hb2=>Nat.lt_of_lt_of_le hb2 hB.size)
      have hlt:k < f.len:=by omega
      clear hk hr sk sv hnv g0 g1 g2 hB
      -- CASES
      obtain ⟨lv,hlv⟩ : ∃lv,lv=v.length:=⟨_,rfl⟩
      obtain ⟨lk,hlk2⟩ : ∃lk,lk=kk.len:=⟨_,rfl⟩
      rw [←hlv] at y1
      rw [←hlk2] at y2
      have HL:=Lib.hid (show lv=v.length∧lk=kk.len from ⟨hlv,hlk2⟩)
      obtain ⟨x,hx⟩ : ∃x,x=chk1 t lv lk d:=⟨_,rfl⟩
      have HXX:=Lib.hid (show x=chk1 t v.length kk.len d from by rw [hx,hlv,hlk2])
      have HBW:=Lib.hid HG.out.2.2.2.2
      have HNW:=Lib.hid (show Below wr.heap.size wr (wr.alloc (.cells #[.int .i64 t,.slice Av lv cv,.slice Ak lk ck] 64)) from (Below.refl _ _).alloc (Nat.le_refl _) _)
      unfold chk1 at hx
      clear hlv hlk2 hlk S1 hp
      cases hv:zaA t
      · have HW := Lib.hid (show ∀ u, Calls Tryz.prog 61 #[.int .i64 t] u fun e w' => e = .returned (.bool false) ∧ w' = u from fun u => by have := zdl t lo hi u; rwa [hv] at this)
        have HK2:=Lib.hid (show ∀u,Calls Tryz.prog 29 #[.int .i64 t] u fun e w'=>e=.returned (.bool (zaE t))∧w'=u from fun u=>zcV t lo hi u)
        rw [hv,if_pos rfl] at hx
        clear hv
        have HD:=Lib.hid (show zdi f d w (.returned (.int .i64 4)) _ from ⟨by rw [HG.out.2.2.2.1,zeQ (by rw [←HXX.out,hx];decide),←HXX.out,hx],zaf HBW.out HNW.out⟩)
        clear hx HXX HG HR HK IH HBW HNW HL
        go_wp2_with (first | (go_at_call 61;refine (HW.out _).mono ?_;rintro e w' ⟨rfl,rfl⟩) | (go_at_call 29;refine (HK2.out _).mono ?_;rintro e w' ⟨rfl,rfl⟩))
        go_ret
        exact HD.out
      · have HW := Lib.hid (show ∀ u, Calls Tryz.prog 61 #[.int .i64 t] u fun e w' => e = .returned (.bool true) ∧ w' = u from fun u => by have := zdl t lo hi u; rwa [hv] at this)
        rw [hv,if_neg (by decide)] at hx
        clear hv
        cases hc:zaE t
        · have HK2 := Lib.hid (show ∀ u, Calls Tryz.prog 29 #[.int .i64 t] u fun e w' => e = .returned (.bool false) ∧ w' = u from fun u => by have := zcV t lo hi u; rwa [hc] at this)
          rw [hc] at hx
          clear hc
          by_cases h1:0 < lk
          · have d1 : decide (0 < lk) = true := by simpa using h1
            rw [if_pos (by simp;omega)] at hx
            clear h1
            have HD:=Lib.hid (show zdi f d w (.returned (.int .i64 1)) _ from ⟨by rw [HG.out.2.2.2.1,zeQ (by rw [←HXX.out,hx];decide),←HXX.out,hx],zaf HBW.out HNW.out⟩)
            clear hx HXX HG HR HK IH HBW HNW HL
            go_wp2_with (first | (go_at_call 61;refine (HW.out _).mono ?_;rintro e w' ⟨rfl,rfl⟩) | (go_at_call 29;refine (HK2.out _).mono ?_;rintro e w' ⟨rfl,rfl⟩))
            go_ret
            exact HD.out
          · have d1 : decide (0 < lk) = false := by simpa using h1
            rw [if_neg (by simp;omega)] at hx
            clear h1
            by_cases h2:8 < d
            · have d2 : decide (8 < d) = true := by simpa using h2
              rw [if_pos h2] at hx
              clear h2
              have HD:=Lib.hid (show zdi f d w (.returned (.int .i64 7)) _ from ⟨by rw [HG.out.2.2.2.1,zeQ (by rw [←HXX.out,hx];decide),←HXX.out,hx],zaf HBW.out HNW.out⟩)
              clear hx HXX HG HR HK IH HBW HNW HL
              go_wp2_with (first | (go_at_call 61;refine (HW.out _).mono ?_;rintro e w' ⟨rfl,rfl⟩) | (go_at_call 29;refine (HK2.out _).mono ?_;rintro e w' ⟨rfl,rfl⟩))
              go_ret
              exact HD.out
            · have d2 : decide (8 < d) = false := by simpa using h2
              rw [if_neg h2] at hx
              have hd8:d≤8:=by omega
              clear h2
              have hc2:=IH.out kk Ak ck (d+1) _ (by omega) (by omega) HG.out.1.2.2.1 (by omega) (by omega) (HK.out.on HNW.out)
              unfold zdi at hc2
              rw [←HL.out.2] at hc2
              obtain ⟨y,hy⟩ : ∃y,y=chkE kk (d+1):=⟨_,rfl⟩
              rw [←hy] at hc2
              have HC2:=Lib.hid hc2
              have HE:=Lib.hid (show chk1 t v.length kk.len d=0∧y=chkE kk (d+1) from ⟨by rw [←HXX.out,hx],hy⟩)
              clear hc2 hx HXX hy HK
              go_wp2_with (first | (go_at_call 61;refine (HW.out _).mono ?_;rintro e w' ⟨rfl,rfl⟩) | (go_at_call 29;refine (HK2.out _).mono ?_;rintro e w' ⟨rfl,rfl⟩))
              refine HC2.out.mono ?_
              rintro e w2 ⟨rfl,hb2⟩
              have HB2:=Lib.hid (zaf HBW.out (zaf HNW.out hb2))
              clear hb2 HC2 HNW HBW
              by_cases h0:y=0
              · subst h0
                have HF:=Lib.hid (show r.ok∧r.size≤f.size∧HoldsP w (· < w.heap.size) r (cs.drop (3*(k+1)))∧chkE f d=chkE r d∧Below w.heap.size w w2 from ⟨HG.out.1.2.2.2,by omega,HR.out,HG.out.2.2.2.1.trans (chkE_3 HE.out.1 HE.out.2.symm),HB2.out⟩)
                clear HG HR HE HB2 IH HL
                go_wp2_with fail
                go_roundw
                case rel=>exact ⟨k+1,r,by omega,by go_num,HF⟩
                case measure=>simp [intOf];omega
              · have d3 : (y != 0) = true := by simpa using h0
                have HD:=Lib.hid (show zdi f d w (.returned (.int .i64 y)) w2 from ⟨by rw [HG.out.2.2.2.1,chkE_2 HE.out.1 (by rw [←HE.out.2];exact h0),←HE.out.2],HB2.out⟩)
                clear HG HR HE HB2 IH HL h0
                go_wp2_with fail
                go_ret
                exact HD.out
        · have HK2 := Lib.hid (show ∀ u, Calls Tryz.prog 29 #[.int .i64 t] u fun e w' => e = .returned (.bool true) ∧ w' = u from fun u => by have := zcV t lo hi u; rwa [hc] at this)
          rw [hc] at hx
          clear hc
          by_cases h1:0 < lv
          · have d1 : decide (0 < lv) = true := by simpa using h1
            rw [if_pos (by simp;omega)] at hx
            clear h1
            have HD:=Lib.hid (show zdi f d w (.returned (.int .i64 1)) _ from ⟨by rw [HG.out.2.2.2.1,zeQ (by rw [←HXX.out,hx];decide),←HXX.out,hx],zaf HBW.out HNW.out⟩)
            clear hx HXX HG HR HK IH HBW HNW HL
            go_wp2_with (first | (go_at_call 61;refine (HW.out _).mono ?_;rintro e w' ⟨rfl,rfl⟩) | (go_at_call 29;refine (HK2.out _).mono ?_;rintro e w' ⟨rfl,rfl⟩))
            go_ret
            exact HD.out
          · have d1 : decide (0 < lv) = false := by simpa using h1
            rw [if_neg (by simp;omega)] at hx
            clear h1
            by_cases h2:8 < d
            · have d2 : decide (8 < d) = true := by simpa using h2
              rw [if_pos h2] at hx
              clear h2
              have HD:=Lib.hid (show zdi f d w (.returned (.int .i64 7)) _ from ⟨by rw [HG.out.2.2.2.1,zeQ (by rw [←HXX.out,hx];decide),←HXX.out,hx],zaf HBW.out HNW.out⟩)
              clear hx HXX HG HR HK IH HBW HNW HL
              go_wp2_with (first | (go_at_call 61;refine (HW.out _).mono ?_;rintro e w' ⟨rfl,rfl⟩) | (go_at_call 29;refine (HK2.out _).mono ?_;rintro e w' ⟨rfl,rfl⟩))
              go_ret
              exact HD.out
            · have d2 : decide (8 < d) = false := by simpa using h2
              rw [if_neg h2] at hx
              have hd8:d≤8:=by omega
              clear h2
              have hc2:=IH.out kk Ak ck (d+1) _ (by omega) (by omega) HG.out.1.2.2.1 (by omega) (by omega) (HK.out.on HNW.out)
              unfold zdi at hc2
              rw [←HL.out.2] at hc2
              obtain ⟨y,hy⟩ : ∃y,y=chkE kk (d+1):=⟨_,rfl⟩
              rw [←hy] at hc2
              have HC2:=Lib.hid hc2
              have HE:=Lib.hid (show chk1 t v.length kk.len d=0∧y=chkE kk (d+1) from ⟨by rw [←HXX.out,hx],hy⟩)
              clear hc2 hx HXX hy HK
              go_wp2_with (first | (go_at_call 61;refine (HW.out _).mono ?_;rintro e w' ⟨rfl,rfl⟩) | (go_at_call 29;refine (HK2.out _).mono ?_;rintro e w' ⟨rfl,rfl⟩))
              refine HC2.out.mono ?_
              rintro e w2 ⟨rfl,hb2⟩
              have HB2:=Lib.hid (zaf HBW.out (zaf HNW.out hb2))
              clear hb2 HC2 HNW HBW
              by_cases h0:y=0
              · subst h0
                have HF:=Lib.hid (show r.ok∧r.size≤f.size∧HoldsP w (· < w.heap.size) r (cs.drop (3*(k+1)))∧chkE f d=chkE r d∧Below w.heap.size w w2 from ⟨HG.out.1.2.2.2,by omega,HR.out,HG.out.2.2.2.1.trans (chkE_3 HE.out.1 HE.out.2.symm),HB2.out⟩)
                clear HG HR HE HB2 IH HL
                go_wp2_with fail
                go_roundw
                case rel=>exact ⟨k+1,r,by omega,by go_num,HF⟩
                case measure=>simp [intOf];omega
              · have d3 : (y != 0) = true := by simpa using h0
                have HD:=Lib.hid (show zdi f d w (.returned (.int .i64 y)) w2 from ⟨by rw [HG.out.2.2.2.1,chkE_2 HE.out.1 (by rw [←HE.out.2];exact h0),←HE.out.2],HB2.out⟩)
                clear HG HR HE HB2 IH HL h0
                go_wp2_with fail
                go_ret
                exact HD.out
end Go.Proofs.YtnlhbknajdpnbaaGreatDoor
namespace Go.Proofs.YtnlhbknajdpnbaaGreatDoor
open Go.RowKit
def F.raw : F → Prop
 | .nil=>True
 | .cons t v k r=>(0 < t∧t≤65535)∧v.length≤5000∧(zaE t=true→v=[])∧(zaE t=false→k=.nil)∧k.raw∧r.raw
theorem enc_app (g : F) : ∀ f : F, enc (f.app g) = enc f ++ enc g
 | .nil=>rfl
 | .cons t v k r=>by simp only [F.app,enc,enc_app g r,List.append_assoc]
theorem zfj (g : F) : ∀ f : F, encN (f.app g) = encN f + encN g
 | .nil=>by simp [F.app,encN]
 | .cons t v k r=>by simp only [F.app,encN,zfj g r];omega
theorem lb_max {n : Nat} (h : n ≤ 65535) : lb n ≤ 2 := by
 by_cases h1:n≤127
 · rw [lb_0 h1];omega
 · by_cases h2 : n < 256
   · rw [lb_1 (by omega) h2];omega
   · rw [lb_2 (by omega) (by omega)];omega
def St3 (w:World) (l:List UInt8) (v:Value) (wX:World):Prop:=wX.ownsRow w.heap.size 5 1 v l.length (Us l)∧Below w.heap.size w wX
def Con3 (wX:World) (v:Value) (A:Option Addr) (cb:List UInt8):Prop:=SeesP wX (fun q=>q < wX.heap.size∧v.ownBlock≠some q) A (Us cb)
theorem St3.app {w wX w2 : World} {l xs : List UInt8} {v v2 : Value} {o : Obj} {n : Nat} {news : List Value} (h : St3 w l v wX) (hn : n = xs.length) (he : news = Us xs) (ho : w2.ownsRow w.heap.size 5 1 v2 (l.length + n) (Us l ++ news)) (hg : (wX.alloc o).grownBy w2 v.ownBlock) : St3 w (l ++ xs) v2 w2 := by
 subst hn he
 exact ⟨by rw [List.length_append,zaP];exact ho,((h.2.alloc h.2.size o)).grown hg (by have:=h.2.size;simp;omega) (zcX h.1)⟩
theorem St3.src {w wX w2 : World} {l xs : List UInt8} {v v2 : Value} (h : St3 w l v wX) (ho : w2.ownsRow w.heap.size 5 1 v2 (l.length + xs.length) (Us l ++ Us xs)) (hg : wX.grownBy w2 v.ownBlock) : St3 w (l ++ xs) v2 w2 :=
 ⟨by rw [List.length_append,zaP];exact ho,h.2.grown hg h.2.size (zcX h.1)⟩
theorem St3.on {w wX w2 : World} {l : List UInt8} {v : Value} (h : St3 w l v wX) (hb : Below wX.heap.size wX w2) : St3 w l v w2 :=
 ⟨zbm h.1 (zaD hb (row:=some wX.heap.size)) (fun e=>by have:=(h.1.lt _ e).2;omega),zaf h.2 hb⟩
theorem Con3.lies {wX w2 : World} {v : Value} {A : Option Addr} {cb : List UInt8} {o : Obj} {g k cap : Nat} (h : Con3 wX v A cb) (hg : (wX.alloc o).grownBy w2 v.ownBlock) (hl : v.ownBlock = some g ∨ g = (wX.alloc o).heap.size) : Con3 w2 (.slice (some ⟨g, 0, none⟩) k cap) A cb := by
 refine (SeesP.keep h fun q hq=>?_).imp fun b hb=>⟨?_,?_⟩
 · exact (World.cell?_of_block (hg.block q.block (by simp;omega) (fun e=>hq.2 e.symm))).trans (World.cell?_alloc_lt wX o q hq.1)
 · have h1 := hg.size
   have h2:=hb.1
   simp at h1
   omega
 · intro e
   have e:some g=some b:=e
   injection e with e
   subst e
   rcases hl with hl | hl
   · exact hb.2 hl
   · have:=hb.1;simp at hl;omega
theorem Con3.lies0 {wX w2 : World} {v : Value} {A : Option Addr} {cb : List UInt8} {g k cap : Nat} (h : Con3 wX v A cb) (hg : wX.grownBy w2 v.ownBlock) (hl : v.ownBlock = some g ∨ g = wX.heap.size) : Con3 w2 (.slice (some ⟨g, 0, none⟩) k cap) A cb := by
 refine (SeesP.keep h fun q hq=>?_).imp fun b hb=>⟨?_,?_⟩
 · exact World.cell?_of_block (hg.block q.block hq.1 (fun e=>hq.2 e.symm))
 · have:=hg.size;have:=hb.1;omega
 · intro e
   have e:some g=some b:=e
   injection e with e
   subst e
   rcases hl with hl | hl
   · exact hb.2 hl
   · have:=hb.1;omega
theorem Con3.on {wX w2 : World} {v : Value} {A : Option Addr} {cb : List UInt8} (h : Con3 wX v A cb) (hb : Below wX.heap.size wX w2) : Con3 w2 v A cb :=
 (SeesP.keep h fun q hq=>hb.cell hq.1).imp fun b hq=>⟨Nat.lt_of_lt_of_le hq.1 hb.size,hq.2⟩
def ContOk (v:List UInt8) (kk:F) (cb:List UInt8):Prop:=(v.length+encN kk≤4096→cb=v++enc kk)∧(4096 < v.length+encN kk→4096 < cb.length)
def RawIs (w:World) (f:F) (e:Ending) (w':World):Prop:=∃(b:List UInt8) (A:Option Addr) (c:Nat),e=.returned (.slice A b.length c)∧b.length≤c∧(A=none→c=0)∧SeesP w' (newB w w') A (Us b)∧(encN f≤4096→b=enc f)∧(4096 < encN f→4096 < b.length)∧b.length≤8300∧Below w.heap.size w w'
def RRel (w : World) (cs : List Value) (f : F) (v : Value) (j : Nat) (g : F) (l : List UInt8) (wr : World) : Prop :=
 St3 w l v wr∧HoldsQ w (· < w.heap.size) g (cs.drop (3*j))∧g.raw∧∃df:F,df.app g=f∧(encN df≤4096→l=enc df)∧(4096 < encN df→4096 < l.length)
theorem RRel.step {w w2 : World} {cs : List Value} {f : F} {v2 : Value} {j T : Nat} {v cb c2 : List UInt8} {kk r : F} {l L : List UInt8}
 (hh:HoldsQ w (· < w.heap.size) r (cs.drop (3*(j+1)))) (hr:r.raw) (hx:∃df:F,df.app (.cons (T:Int) v kk r)=f∧(encN df≤4096→l=enc df)∧(4096 < encN df→4096 < l.length))
 (hl:l.length≤4096) (hc:ContOk v kk cb) (h2:c2=if 4096 < cb.length then cb.take 4097 else cb) (hL:L=l++tagL T++lenL c2.length++c2) (hst:St3 w L v2 w2):RRel w cs f v2 (j+1) r L w2∧L.length≤8300:=by
 obtain ⟨df,d1,d2,d3⟩:=hx
 have hc2 : c2.length ≤ 4097 := by
  rw [h2];split
  · rw [List.length_take];omega
  · omega
 have hlb:=lb_max (n:=c2.length) (by omega)
 have hlen:L.length=l.length+(tagL T).length+(1+lb c2.length)+c2.length:=by rw [hL];simp only [List.length_append,zdS]
 have hT:(tagL T).length≤2:=by unfold tagL;split <;> simp
 have hTn:=zdZ T
 have hN:encN (.cons (T:Int) v kk .nil)=tagN (T:Int)+1+lb (v.length+encN kk)+(v.length+encN kk):=by simp only [encN];omega
 have hok : v.length + encN kk ≤ 4096 → c2 = v ++ enc kk ∧ c2.length = v.length + encN kk := fun h => by
  have e:=hc.1 h
  have e2:cb.length=v.length+encN kk:=by rw [e,List.length_append,zbu]
  rw [if_neg (by omega)] at h2
  rw [h2]
  exact ⟨e,e2⟩
 refine ⟨⟨hst,hh,hr,df.app (.cons (T:Int) v kk .nil),by rw [F.app_assoc];exact d1,fun h=>?_,fun h=>?_⟩,by omega⟩
 · rw [zfj, hN] at h
   obtain ⟨e1,e2⟩:=hok (by omega)
   rw [enc_app,hL,d2 (by omega),e2,e1]
   simp only [enc,Int.toNat_natCast,List.append_nil,List.append_assoc]
 · rw [zfj, hN] at h
   by_cases h4:v.length+encN kk≤4096
   · obtain ⟨e1, e2⟩ := hok h4
     have hd : encN df ≤ 4096 := by
      by_cases hd:encN df≤4096
      · exact hd
      · have:=d3 (by omega);omega
     have:=d2 hd
     have hle:l.length=encN df:=by rw [this,zbu]
     rw [e2] at hlen
     omega
   · have := hc.2 (by omega)
     rw [if_pos this] at h2
     have:c2.length=4097:=by rw [h2,List.length_take];omega
     omega
def RawAll (n : Nat) : Prop := ∀ (f : F) (A : Option Addr) (c : Nat) (w : World), f.size < n → f.raw → SeesQ w (· < w.heap.size) A f →
 Calls Tryz.prog 82 #[.slice A f.len c] w (RawIs w f)
set_option maxRecDepth 20000 in
set_option maxHeartbeats 8000000 in
theorem ref_raw (n : Nat) (hn : n ≤ 1125899906842624) : RawAll n := by
 induction n with
 | zero=>intro f A c w h;omega
 | succ n ih =>
   intro f A c w hsz hraw hs
   obtain ⟨i0,hi,hz0,hz1,hz2⟩:=info_parts zaW
   obtain ⟨cs,s1,k1⟩:=hs
   have hlen:=f.len_le_size
   have IH:=Lib.hid (ih (by omega))
   have HS:=Lib.hid (show SeesP w (· < w.heap.size) A cs from s1)
   have H0:=Lib.hid (show RRel w cs f (.slice none 0 0) 0 f [] w from ⟨⟨⟨rfl,.inl ⟨rfl,rfl⟩⟩,Below.refl _ _⟩,k1,hraw,.nil,rfl,fun _=>rfl,fun h=>by simp [encN] at h⟩)
   clear ih s1 k1 hraw
   go_enter Tryz.func82,Tryz.ntmps82
   go_wp2_with fail
   go_loopw [3,4] (fun v i wr=>∃(j:Nat) (g:F) (l:List UInt8),j+g.len=f.len∧i=.int .i64 (j:Int)∧g.size≤f.size∧l.length≤8300∧Hid (RRel w cs f v j g l wr)) (fun _ i _=>f.len - (intOf i).toNat)
   case atStart=>exact ⟨0,f,[],by omega,rfl,Nat.le_refl _,by simp,H0⟩
   case round =>
    clear H0
    obtain ⟨j,g,l,hj,rfl,hgs,hl8,HG⟩:=hrel
    have hlv : ∃ lv cv A3, u3 = .slice A3 lv cv ∧ lv = l.length := by
     rcases HG.out.1.1.2 with ⟨e,h0⟩ | ⟨g3,cap,cur,e,hb,hh,hn,hmx,hs,ht⟩
     · exact ⟨0,0,none,by rw [e],h0.symm⟩
     · exact ⟨_,_,_,by rw [e],rfl⟩
    obtain ⟨lv,cv3,A3,rfl,rfl⟩:=hlv
    have hres : (g = .nil ∨ 4096 < l.length) → RawIs w f (.returned (.slice A3 l.length cv3)) wr := fun hor => by
     obtain ⟨st,hh,_,df,d1,d2,d3⟩:=HG.out
     have hencf:encN f=encN df+encN g:=by rw [←d1,zfj]
     have hnew : SeesP wr (newB w wr) A3 (Us l) ∧ l.length ≤ cv3 ∧ (A3 = none → cv3 = 0) := by
      rcases st.1.2 with ⟨e,h0⟩ | ⟨g3,cap,cur,e,hb,hh2,hn,hmx,hs,ht⟩
      · have : l = [] := List.eq_nil_of_length_eq_zero h0
        subst this
        injection e with e1 e2 e3
        subst e1 e3
        exact ⟨.inl rfl,by simp,fun _=>rfl⟩
      · injection e with e1 e2 e3
        subst e1 e3
        refine ⟨Or.inr ⟨g3,0,rfl,⟨hb,lt_of_block hh2⟩,fun i hi=>?_⟩,hn,(fun e2=>by cases e2)⟩
        rw [zat] at hi
        rw [Nat.zero_add,cell_of_row wr g3 i cur _ (0,0) hh2,←ht,List.getElem?_take,if_pos (by omega),Array.getElem?_toList]
     refine ⟨l,A3,cv3,rfl,hnew.2.1,hnew.2.2,hnew.1,fun h=>?_,fun h=>?_,hl8,st.2⟩
     · rcases hor with rfl | h4
       · rw [F.app_nil] at d1
         rw [←d1]
         exact d2 (by rw [←d1] at h;exact h)
       · have := d2 (by omega)
         rw [this,zbu] at h4
         omega
     · rcases hor with rfl | h4
       · rw [F.app_nil] at d1
         exact d3 (by rw [←d1] at h;exact h)
       · exact h4
    cases g with
    | nil =>
      have HF:=Lib.hid (hres (.inl rfl))
      have hj2:j=f.len:=hj
      have dk:decide ((j:Int) < (f.len:Int))=false:=by simp;omega
      clear hres HG hj
      go_wp2_with fail
      go_ret
      exact HF.out
    | cons t v kk r =>
      have hj1:j+r.len+1=f.len:=hj
      have hlt:j < f.len:=by omega
      have dk:decide ((j:Int) < (f.len:Int))=true:=by simp;omega
      by_cases h4:l.length≤4096
      · have d4 : decide ((l.length : Int) ≤ 4096) = true := by simp; omega
        have hgs1:kk.size+r.size+1≤f.size:=hgs
        obtain ⟨st,hh,⟨⟨t0,t1⟩,v4,hcv,hck,hkr,hrr⟩,hx⟩:=HG.out
        obtain ⟨T,rfl⟩:=Int.eq_ofNat_of_zero_le (show 0≤t by omega)
        have hT:T≤65535:=by omega
        obtain ⟨b,off,Av,cv,Ak,ck,rfl,hp,x0,x1,x2,sv,sk,hr,hnv⟩:=node_atQ HS.out hh
        have y0:=(st.2.cell (p:=⟨b,off+j*3,none⟩) hp).trans x0
        have y1:=(st.2.cell (p:=⟨b,off+j*3+1,none⟩) hp).trans x1
        have y2:=(st.2.cell (p:=⟨b,off+j*3+2,none⟩) hp).trans x2
        have HX:=Lib.hid (show HoldsQ w (· < w.heap.size) r (cs.drop (3*(j+1)))∧r.raw∧(∃df:F,df.app (.cons (T:Int) v kk r)=f∧(encN df≤4096→l=enc df)∧(4096 < encN df→4096 < l.length)) from ⟨hr,hrr,hx⟩)
        have HQ:=Lib.hid (show SeesP w (· < w.heap.size) Av (Us v)∧SeesQ w (· < w.heap.size) Ak kk∧((Av=none→cv=0)∧(4096 < v.length→v.length≤cv))∧(zaE (T:Int)=true→v=[])∧(zaE (T:Int)=false→kk=.nil)∧kk.raw from ⟨sv,sk,hnv,hcv,hck,hkr⟩)
        have HY:=Lib.hid (show b < w.heap.size∧w.cell? ⟨b,off+j*3,none⟩=some (.int .i64 (T:Int)) from ⟨hp,x0⟩)
        have ST:=Lib.hid st
        have HK:=Lib.hid (fun u=>zcV (T:Int) (by omega) (by omega) u)
        have hwsz:=st.2.size
        clear hj hgs HG hh hx hr sv sk hnv x0 x1 x2 hp st hcv hck hkr hrr hres HS t0 t1
        go_upto_if 27 with (go_at_call 29;refine (HK.out _).mono ?_;rintro e w' ⟨rfl,rfl⟩)
        go_cut [5] from 6 to 71 (fun v5 wx=>∃(A:Option Addr) (cn:Nat) (cb:List UInt8),v5=.slice A cb.length cn∧Hid (St3 w l (.slice A3 l.length cv3) wx∧Con3 wx (.slice A3 l.length cv3) A cb∧(A=none→cn=0)∧(4096 < cb.length→cb.length≤cn)∧ContOk v kk cb)∧cb.length≤8300)
        case first =>
         cases hcb:zaE (T:Int)
         · go_wp2_with fail
           go_meet
           have hkn:=HQ.out.2.2.2.2.1 hcb
           refine ⟨Av,cv,v,rfl,Lib.hid ⟨ST.out,?_,HQ.out.2.2.1.1,HQ.out.2.2.1.2,fun _=>?_,fun h=>?_⟩,by omega⟩
           · refine (HQ.out.1.keep fun q hq => ST.out.2.cell hq).imp fun q hq => ⟨by have : q < w.heap.size := hq; omega, ?_⟩
             intro e
             have:=zcX ST.out.1 q e
             have:q < w.heap.size:=hq
             omega
           · rw [hkn];simp [enc]
           · rw [hkn] at h;simp [encN] at h;omega
         · have HI := Lib.hid (IH.out kk Ak ck _ (by omega) HQ.out.2.2.2.2.2 (HQ.out.2.1.on ST.out.2))
           go_wp2_with fail
           refine HI.out.mono ?_
           rintro e w2 ⟨bb,A2,c2,rfl,hcl,hcn,hss,he1,he2,hbl,hbw⟩
           have HZ:=Lib.hid (show _∧_∧_∧_∧_∧_ from ⟨hcl,hcn,hss,he1,he2,hbw⟩)
           clear hcl hcn hss he1 he2 hbw HI
           go_wp2_with fail
           go_meet
           obtain ⟨hcl,hcn,hss,he1,he2,hbw⟩:=HZ.out
           have hvn:=HQ.out.2.2.2.1 hcb
           refine ⟨A2,c2,bb,rfl,Lib.hid ⟨ST.out.on hbw,hss.imp fun q hq=>⟨hq.2,?_⟩,hcn,fun _=>hcl,fun h=>?_,fun h=>?_⟩,hbl⟩
           · intro e
             have:=(ST.out.1.lt q e).2
             have:=hq.1
             omega
           · rw [hvn] at h ⊢; exact he1 (by simpa using h)
           · rw [hvn] at h;exact he2 (by simpa using h)
        case rest =>
         obtain ⟨A,cn,cb,rfl,HC,hcb8⟩:=hcut
         have y0:=(HC.out.1.2.cell (p:=⟨b,off+j*3,none⟩) HY.out.1).trans HY.out.2
         have hown:=HC.out.1.1
         have hsz1:=HC.out.1.2.size
         clear ST y1 y2 hwsz
         go_upto_if 39 with fail
         go_cut [3] from 6 to 71 (fun v3 wx=>∃l1:List UInt8,Hid (St3 w l1 v3 wx∧Con3 wx v3 A cb∧l1++[UInt8.ofNat T]=l++tagL T)∧l1.length≤l.length+1)
         case first =>
          by_cases h255:255 < T
          · have d255 : decide ((255 : Int) < (T : Int)) = true := by simp; omega
            have eq1:#[Value.int .u8 ((T:Int) / 256)].toList=Us [UInt8.ofNat (T / 256)]:=by simp [Us,U];omega
            go_wp2_with (at_builtin;refine wpList_append_lies _ rfl (.tmp 40) (.tmp 48) 27 rfl w.heap.size 5 i0 (.int .u8 0) 1 1 Tryz.underlying27 hi hz0 hz1 hz2 rfl (by decide) (.slice A3 l.length cv3) (l.length) _ rfl (hown.alloc _) ⟨_,0,none⟩ 1 1 _ rfl rfl (World.news_of_block (heap_alloc_new _ _)) (zbi eq1) (by decide) (by unfold maxLen;omega) (by omega) (by simp;omega) _ rfl ?_;intro ga capa wa ho hg hl _;have ST1:=Lib.hid (St3.app (xs:=[UInt8.ofNat (T / 256)]) HC.out.1 rfl eq1 ho hg);have CO1:=Lib.hid (Con3.lies HC.out.2.1 hg hl (k:=l.length+1) (cap:=capa));clear ho hg hl)
            go_meet
            exact ⟨_,Lib.hid ⟨ST1.out,CO1.out,by unfold tagL;rw [if_pos h255];simp⟩,by simp⟩
          · have d255 : decide ((255 : Int) < (T : Int)) = false := by simp; omega
            go_wp2_with fail
            go_meet
            exact ⟨_,Lib.hid ⟨HC.out.1,HC.out.2.1,by unfold tagL;rw [if_neg h255]⟩,by omega⟩
         case rest =>
          obtain ⟨l1,HC1,hl1⟩:=hcut
          have y0:=(HC1.out.1.2.cell (p:=⟨b,off+j*3,none⟩) HY.out.1).trans HY.out.2
          have hown1:=HC1.out.1.1
          have hsz2:=HC1.out.1.2.size
          clear hown hsz1
          go_upto_if 61 with (at_builtin;refine wpList_append_lies _ rfl (.tmp 50) (.tmp 57) 27 rfl w.heap.size 5 i0 (.int .u8 0) 1 1 Tryz.underlying27 hi hz0 hz1 hz2 rfl (by decide) u3 (l1.length) _ rfl (hown1.alloc _) ⟨_,0,none⟩ 1 1 _ rfl rfl (World.news_of_block (heap_alloc_new _ _)) (zbi (t1 T)) (by decide) (by unfold maxLen;omega) (by omega) (by simp;omega) _ rfl ?_;intro gb capb wb ho hg hl _;have ST2:=Lib.hid (St3.app (xs:=[UInt8.ofNat T]) HC1.out.1 rfl (t1 T) ho hg);have CO2:=Lib.hid (Con3.lies HC1.out.2.1 hg hl (k:=l1.length+1) (cap:=capb));clear ho hg hl)
          have hln2:(l1++[UInt8.ofNat T]).length=l1.length+1:=by simp
          have hbnd:=ST2.out.1
          have hsz3:=ST2.out.2.size
          have HST:=Lib.hid hbnd
          clear hbnd hown1 hsz2 y0
          go_cut [3,5] from 6 to 71 (fun v3 v5 wx=>∃(L1:List UInt8) (g1 p1:Nat) (A:Option Addr) (cn:Nat) (c2:List UInt8),v3=.slice (some ⟨g1,0,none⟩) L1.length p1∧v5=.slice A c2.length cn∧c2.length≤4097∧L1.length≤4100∧Hid (c2=(if 4096 < cb.length then cb.take 4097 else cb)∧St3 w L1 (.slice (some ⟨g1,0,none⟩) L1.length p1) wx∧Con3 wx (.slice (some ⟨g1,0,none⟩) L1.length p1) A c2∧(A=none→cn=0)∧L1=l++tagL T))
          case first =>
           by_cases h9:4096 < cb.length
           · have d9 : decide ((4096 : Int) < (cb.length : Int)) = true := by simp; omega
             have hcap:=HC.out.2.2.2.1 h9
             go_wp2_with fail
             go_meet
             refine ⟨l1++[UInt8.ofNat T],gb,capb,A,cn,cb.take 4097,by rw [List.length_append];rfl,by rw [List.length_take,Nat.min_eq_left (by omega)],by rw [List.length_take];omega,by omega,Lib.hid ⟨by rw [if_pos h9],by have h:=ST2.out;rw [show (l1++[UInt8.ofNat T]).length=l1.length+1 by simp];exact h,?_,HC.out.2.2.1,HC1.out.2.2⟩⟩
             have h:=CO2.out
             unfold Con3 at h ⊢
             rw [show (l1++[UInt8.ofNat T]).length=l1.length+1 by simp]
             exact zcx h
           · have d9 : decide ((4096 : Int) < (cb.length : Int)) = false := by simp; omega
             go_wp2_with fail
             go_meet
             exact ⟨l1++[UInt8.ofNat T],gb,capb,A,cn,cb,by rw [List.length_append];rfl,rfl,by omega,by omega,Lib.hid ⟨by rw [if_neg h9],by rw [show (l1++[UInt8.ofNat T]).length=l1.length+1 by simp];exact ST2.out,by rw [show (l1++[UInt8.ofNat T]).length=l1.length+1 by simp];exact CO2.out,HC.out.2.2.1,HC1.out.2.2⟩⟩
          case rest =>
           obtain ⟨L1,g1,p1,A,cn,c2,rfl,rfl,hc2l,hL1,HC2⟩:=hcut
           clear ST2 CO2 HST hsz3
           obtain ⟨LS,hLS⟩ : ∃LS,LS=lenL c2.length:=⟨_,rfl⟩
           have hLl:1≤LS.length∧LS.length≤3:=by have:=zdS c2.length;have:=lb_max (n:=c2.length) (by omega);rw [hLS];omega
           obtain ⟨hLa,hLb⟩:=hLl
           have HLN:=Lib.hid (show ∀u,Calls Tryz.prog 102 #[.int .i64 (c2.length:Int)] u (MadeIs u LS) from fun u=>by rw [hLS];exact ref_length c2.length (by omega) u)
           have HLS:=Lib.hid hLS
           have HT2:=Lib.hid HC2.out.1
           clear hLS
           go_wp2_with fail
           refine (HLN.out _).mono ?_
           rintro e wl ⟨gl,rfl,sl,hbl⟩
           have ST3:=Lib.hid (HC2.out.2.1.on hbl)
           have CO3:=Lib.hid (Con3.on HC2.out.2.2.1 hbl)
           have HSL:=Lib.hid (show ∀j u,(Us LS)[j]? = some u→wl.cell? ((⟨gl,0,none⟩ : Addr).add j)=some u from sl.src _ rfl)
           have hsz4:=ST3.out.2.size
           clear sl hbl HLN
           go_wp2_with (first | (at_builtin;refine wpList_append_lies _ rfl (.tmp 64) (.tmp 67) 27 rfl w.heap.size 5 i0 (.int .u8 0) 1 1 Tryz.underlying27 hi hz0 hz1 hz2 rfl (by decide) (.slice (some ⟨g1,0,none⟩) L1.length p1) _ _ rfl ST3.out.1 ⟨gl,0,none⟩ LS.length LS.length (Us LS) rfl (by rw [zat];omega) HSL.out (zcE _) (by omega) (by unfold maxLen;omega) (by omega) hsz4 _ rfl ?_;intro gc capc wc4 ho hg hl _;have ST4:=Lib.hid (St3.src (xs:=LS) ST3.out ho hg);have CO4:=Lib.hid (Con3.lies0 CO3.out hg hl (k:=L1.length+LS.length) (cap:=capc));have hsz5:=ST4.out.2.size;have hln5:(L1++LS).length≤L1.length+LS.length:=(by rw [List.length_append];omega);have HNN:=Lib.hid (show A=none→c2=[] from fun e=>(by have h:=CO4.out;unfold Con3 at h;rw [e] at h;have:=congrArg List.length h.none_nil;rw [zat] at this;exact List.eq_nil_of_length_eq_zero this));clear ho hg hl) | (at_builtin;refine zbe rfl (.tmp 69) (.tmp 70) 27 rfl w.heap.size 5 i0 (.int .u8 0) Tryz.underlying27 hi hz0 hz1 hz2 rfl _ _ _ rfl ST4.out.1 A cn c2 rfl HC2.out.2.2.2.1 HNN.out (SeesP.src CO4.out) (by unfold maxLen;omega) (by omega) hsz5 ?_;intro v5 w5 ho5 hg5;have ST5:=Lib.hid (St3.src ST4.out ho5 hg5);clear ho5 hg5))
           have HF:=Lib.hid (RRel.step HX.out.1 HX.out.2.1 HX.out.2.2 h4 HC.out.2.2.2.2 HC2.out.1 (by rw [HC2.out.2.2.2.2,HLS.out]) ST5.out)
           have hL8:=HF.out.2
           have HF1:=Lib.hid HF.out.1
           clear HF ST4 ST5 CO4 ST3 CO3
           go_roundw
           case rel=>exact ⟨j+1,r,_,by omega,by go_num,by omega,hL8,HF1⟩
           case measure=>simp [intOf];omega
      · have d4 : decide ((l.length : Int) ≤ 4096) = false := by simp; omega
        have HF:=Lib.hid (hres (.inr (by omega)))
        clear hres HG hj h4
        go_wp2_with fail
        go_ret
        exact HF.out
end Go.Proofs.YtnlhbknajdpnbaaGreatDoor
