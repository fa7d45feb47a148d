/-
  What is proved here: reading a file of the root piece by piece (the law FilesReads), for any dice and any size.
-/
import Derived.Test.YtkdlfbggddllhaaPR31
import Derived.Test.YtkdlfbggddllhaaPR19
import Derived.SizedLaws
import Derived.Deep.Slices
import Derived.ProofKit
import Derived.OpenShut
import Derived.WalkKit
import Derived.Lib.SmallJoins
import Derived.Test.YtkdlfbggddllhaaPR14
import Derived.Test.YtkdlfbggddllhaaPR7
import Derived.Test.YtkdlfbggddllhaaPR8
import Derived.Test.YtkdlfbggddllhaaPR4
set_option linter.unusedVariables false
set_option linter.unusedSimpArgs false
namespace Go.Proofs.Ytkdlfbggddllhaa
open Go.RowKit
set_option maxRecDepth 8000
def fB (A:Option Addr) (c:Nat) (v:List UInt8):Fw:=⟨3,2,A,c,0,0,v⟩
def gB (g:Nat) (A:Option Addr) (c:Nat) (v:List UInt8):Gw:=⟨some ⟨g,0,none⟩,1,[fB A c v],none,0,[]⟩
theorem bldFB (A:Option Addr) (c:Nat) (v:List UInt8):Try.prog.built 60 [(0,.int .i64 3),(1,.int .i64 2),(2,.slice A v.length c)]=some (fB A c v).cs.toArray:=by kernel_rfl
theorem bsFB (A:Option Addr) (c:Nat) (v:List UInt8):Try.prog.builtSlice 60 1 [(0,.agg (fB A c v).cs.toArray)]=some (fB A c v).cs.toArray:=by kernel_rfl
theorem bldGB (g:Nat) (A:Option Addr) (c:Nat) (v:List UInt8):Try.prog.built 25 [(0,.slice (some ⟨g,0,none⟩) 1 1)]=some (gB g A c v).cs.toArray:=by kernel_rfl
theorem pe012 {a : Act} {x0 x1 x2 : Operand} {u0 u1 u2 : Value} (h0 : a.eval x0 = u0) (h1 : a.eval x1 = u1) (h2 : a.eval x2 = u2) :
 ((#[(0,x0),(1,x1),(2,x2)]:Array (Nat×Operand)).map fun (i,x)=>(i,a.eval x)).toList=[(0,u0),(1,u1),(2,u2)]:=by simp [h0,h1,h2]
theorem gB_val {g : Nat} {A : Option Addr} {c : Nat} {v : List UInt8} (h : v.length ≤ 200) : valE (gB g A c v) = 0 := by
 have h2:¬4096 < v.length:=by omega
 simp [valE,gB,lisE,chF,oneF,fB,chkA,rngF,takB,cndB,rgB,h2]
theorem gB_at {g : Nat} {A : Option Addr} {c : Nat} {v : List UInt8} (h : v.length ≤ 200) (file : Int) (h1 : -1 ≤ file) (h2 : file ≤ 0) : atE (gB g A c v) (-1) file = 0 := by
 unfold atE
 rw [gB_val h,if_neg]
 simp only [lstL,gB,List.length_cons,List.length_nil]
 simp
 omega
theorem gB_fnd {g : Nat} {A : Option Addr} {c : Nat} {v : List UInt8} (h : v.length ≤ 200) : fndE (gB g A c v) (-1) (-1) (srtB 2) = 0 ∧ fndP (gB g A c v) (-1) (-1) (srtB 2) = (-1, 0) := by
 have e : fndE (gB g A c v) (-1) (-1) (srtB 2) = 0 := by
  unfold fndE
  rw [gB_at h (-1) (by decide) (by decide)]
  simp [lstL,gB,fstP,srtB,fB]
 refine ⟨e,?_⟩
 unfold fndP
 rw [e]
 simp [lstL,gB,fstP,srtB,fB]
theorem gB_sel {g : Nat} {A : Option Addr} {c : Nat} {v : List UInt8} (h : v.length ≤ 200) : selE (gB g A c v) (-1) 0 = 0 ∧ selF (gB g A c v) (-1) 0 = fB A c v := by
 have e : selE (gB g A c v) (-1) 0 = 0 := by
  unfold selE
  rw [gB_at h 0 (by decide) (by decide)]
  simp
 refine ⟨e,?_⟩
 unfold selF
 rw [e]
 simp [lstL,gB]
theorem gB_red {g : Nat} {A : Option Addr} {c : Nat} {v : List UInt8} (h : v.length ≤ 200) (k n : Nat) (hk : k ≤ v.length) (hn : 1 ≤ n) (hn2 : n ≤ 4096) :
 redE (gB g A c v) (-1) 0 st0 (k:Int) (n:Int)=0∧redV (gB g A c v) (-1) 0 st0 (k:Int) (n:Int)=(v.drop k).take n∧redB (gB g A c v) (-1) 0 st0 (k:Int) (n:Int)=decide (v.length≤k+n):=by
 have e : redE (gB g A c v) (-1) 0 st0 (k : Int) (n : Int) = 0 := by
  unfold redE
  rw [(gB_sel h).1,(gB_sel h).2,if_neg (by simp),if_neg (by simp [fB,alwB]),if_neg (by simp only [fB];omega)]
 refine ⟨e,?_,?_⟩
 · unfold redV
   rw [e,(gB_sel h).2]
   simp [fB]
 · unfold redB
   rw [e,(gB_sel h).2,if_pos rfl]
   simp only [fB]
   exact decide_eq_decide.2 (by omega)
theorem gB_sees {w w2 : World} {g : Nat} {A : Option Addr} {c : Nat} {v : List UInt8} (hs : SeesP w (· < w.heap.size) A (Us v)) (hc : v.length ≤ c) (hn : A = none → c = 0) (hf : Fresh w w2 g) (hr : RowV w2 g (fB A c v).cs) : SeesW w2 (· < w2.heap.size) (gB g A c v) := by
 refine ⟨⟨.inr ⟨g,0,rfl,hr.lt,fun j hj=>by rw [Nat.zero_add,hr.cell];exact congrArg (·[j]?) (List.append_nil _).symm⟩,fun x hx=>?_,Nat.le_refl _,fun h=>by cases h⟩,SeesK.nil_⟩
 rw [List.mem_singleton.1 hx]
 exact ⟨(hs.keep fun _ hq=>hf.bw.cell hq).imp fun _ h2=>Nat.lt_of_lt_of_le h2 hf.bw.size,hc,hn⟩
theorem own_onR {a b : World} {base n s : Nat} {e : TypeId} {v : Value} {xs : List Value} (h : a.ownsRow base e s v n xs) (hb : Below a.heap.size a b) : b.ownsRow base e s v n xs := by
 rcases h with ⟨h1,h2⟩
 rcases h2 with ⟨rfl,rfl⟩ | ⟨g,cap,cur,rfl,hg,hh,h4,h5,h6,h7⟩
 · exact ⟨h1,.inl ⟨rfl,rfl⟩⟩
 · exact ⟨h1,.inr ⟨g,cap,cur,rfl,hg,(hb.block g (Array.getElem?_eq_some_iff.1 hh).1).trans hh,h4,h5,h6,h7⟩⟩
theorem take_nextR {v:List UInt8} {k n:Nat}:v.take k++(v.drop k).take n=v.take (k+n):=(List.take_add ..).symm
def RdB (w:World) (G:Gw) (k n:Nat) (e0:List UInt8) (bb:Bool):Prop:=Calls Try.prog 20 #[.agg G.cs.toArray,.agg (plV (-1) 0).toArray,.agg st0.cs.toArray,.int .i64 (k:Int),.int .i64 (n:Int)] w fun e w'=>∃A c,e=.returned (.tuple #[.slice A e0.length c,.bool bb,.int .i64 0])∧((A=none→c=0)∧e0.length≤c)∧SeesP w' (newB w w') A (Us e0)∧Below w.heap.size w w'
theorem gB_read {w : World} {g : Nat} {A : Option Addr} {c : Nat} {v : List UInt8} (h : v.length ≤ 200) (k n : Nat) (hk : k ≤ v.length) (hn : 1 ≤ n) (hn2 : n ≤ 4096) (hs : SeesW w (· < w.heap.size) (gB g A c v)) : RdB w (gB g A c v) k n ((v.drop k).take n) (decide (v.length ≤ k + n)) := by
 have h1:=p_read (gB g A c v) (-1) 0 st0 (k:Int) (n:Int) (by decide) (by decide) w hs
 unfold RedIs at h1
 obtain ⟨e1,e2,e3⟩:=gB_red (g:=g) (A:=A) (c:=c) h k n hk hn hn2
 rw [e1,e2,e3] at h1
 exact h1
def ShB (w:World) (G:Gw):Prop:=Calls Try.prog 28 #[.agg G.cs.toArray,.agg (plV (-1) (-1)).toArray,.int .i64 2] w fun e w'=>e=.returned (.tuple #[.agg (plV (-1) 0).toArray,.int .i64 0])∧Below w.heap.size w w'
theorem gB_short {w : World} {g : Nat} {A : Option Addr} {c : Nat} {v : List UInt8} (h : v.length ≤ 200) (hs : SeesW w (· < w.heap.size) (gB g A c v)) : ShB w (gB g A c v) := by
 have h1:=p_short17 (gB g A c v) (-1) (-1) 2 w hs
 unfold zbb at h1
 rw [(gB_fnd h).1,(gB_fnd h).2] at h1
 exact h1
def RdR (w:World) (v:List UInt8) (a:Value) (k:Nat) (wr:World):Prop:=wr.ownsRow w.heap.size 5 1 a k (Us (v.take k))∧Below w.heap.size w wr
theorem RdR.start (w:World) (v:List UInt8):RdR w v (.slice none 0 0) 0 w:=⟨by simpa [Us] using World.ownsRow_nil w w.heap.size 5 1,Below.refl _ _⟩
theorem RdR.on {w wr w':World} {v:List UInt8} {a:Value} {k:Nat} (h:RdR w v a k wr) (hb:Below wr.heap.size wr w'):RdR w v a k w':=⟨own_onR h.1 hb,zac h.2 hb⟩
theorem RdR.next {w wr w' : World} {v : List UInt8} {a a' : Value} {k n m : Nat} {x : List UInt8} (h : RdR w v a k wr) (hx : x = (v.drop k).take n) (hm : m = x.length) (hk : k + m ≤ v.length) (ho : w'.ownsRow w.heap.size 5 1 a' (k + m) (Us (v.take k) ++ Us x)) (hg : wr.grownBy w' a.ownBlock) : RdR w v a' (k + m) w' := by
 refine ⟨?_,zaY h.2 h.1 hg⟩
 have e : v.take (k + m) = v.take k ++ x := by
  subst hx hm
  rw [←take_nextR,List.length_take,List.length_drop]
  congr 1
  rw [List.take_eq_take_iff,List.length_drop]
  omega
 rw [e,zaH]
 exact ho
theorem RdR.all {w wr : World} {v : List UInt8} {A : Option Addr} {c k : Nat} (h : RdR w v (.slice A k c) k wr) : SeesP wr (· < wr.heap.size) A (Us (v.take k)) := by
 rcases h.1.2 with ⟨e,h0⟩ | ⟨g,cap,cur,e,hb2,hh,hn,hmx,hs,ht⟩
 · subst h0
   injection e with e1
   exact .inl (by simp [Us])
 · injection e with e1
   subst e1
   refine Or.inr ⟨g,0,rfl,(Array.getElem?_eq_some_iff.1 hh).1,fun j hj=>?_⟩
   rw [zam] at hj
   have hj2:j < k:=by rw [List.length_take] at hj;omega
   rw [Nat.zero_add,cell_of_row wr g j cur _ (0,0) hh,←ht,List.getElem?_take,if_pos (by omega),Array.getElem?_toList]
end Go.Proofs.Ytkdlfbggddllhaa
