/-
  What is proved here: reading a file of the root piece by piece (the law FilesReads), for any dice and any size.
-/
import Derived.Test.YtkdlfbggddllhaaPG29
import Derived.Test.YtkdlfbggddllhaaPG17
import Derived.SizedLaws
import Derived.Deep.Slices
import Derived.ProofKit
import Derived.OpenShut
import Derived.WalkKit
import Derived.Lib.SmallJoins
import Derived.Test.YtkdlfbggddllhaaPG13
import Derived.Test.YtkdlfbggddllhaaPG6
import Derived.Test.YtkdlfbggddllhaaPG7
import Derived.Test.YtkdlfbggddllhaaPG0
import Derived.Test.YtkdlfbggddllhaaPG1
import Derived.Laws.AppendOwnNone
import Derived.Deep.AppendLies
import Derived.Test.YtkdlfbggddllhaaPG12
import Derived.Test.YtkdlfbggddllhaaPG15
set_option linter.unusedVariables false
set_option linter.unusedSimpArgs false
namespace Go.Proofs.Ytkdlfbggddllhaa
open Go.RowKit
set_option maxRecDepth 8000
theorem own_onR {a b : World} {base n s : Nat} {e : TypeId} {v : Value} {xs : List Value} (h : a.ownsRow base e s v n xs) (hb : Below a.heap.size a b) : b.ownsRow base e s v n xs := by
 rcases h with ⟨h1,h2⟩
 rcases h2 with ⟨rfl,rfl⟩ | ⟨g,cap,cur,rfl,hg,hh,h4,h5,h6,h7⟩
 · exact ⟨h1,.inl ⟨rfl,rfl⟩⟩
 · exact ⟨h1,.inr ⟨g,cap,cur,rfl,hg,(hb.block g (Array.getElem?_eq_some_iff.1 hh).1).trans hh,h4,h5,h6,h7⟩⟩
def RdR (w:World) (v:List UInt8) (a:Value) (k:Nat) (wr:World):Prop:=wr.ownsRow w.heap.size 5 1 a k (Us (v.take k))∧Below w.heap.size w wr
theorem RdR.start (w:World) (v:List UInt8):RdR w v (.slice none 0 0) 0 w:=⟨by simpa [Us] using World.ownsRow_nil w w.heap.size 5 1,Below.refl _ _⟩
theorem RdR.on {w wr w':World} {v:List UInt8} {a:Value} {k:Nat} (h:RdR w v a k wr) (hb:Below wr.heap.size wr w'):RdR w v a k w':=⟨own_onR h.1 hb,zad h.2 hb⟩
theorem RdR.all {w wr : World} {v : List UInt8} {A : Option Addr} {c k : Nat} (h : RdR w v (.slice A k c) k wr) : SeesP wr (· < wr.heap.size) A (Us (v.take k)) := by
 rcases h.1.2 with ⟨e,h0⟩ | ⟨g,cap,cur,e,hb2,hh,hn,hmx,hs,ht⟩
 · subst h0
   injection e with e1
   exact .inl (by simp [Us])
 · injection e with e1
   subst e1
   refine Or.inr ⟨g,0,rfl,(Array.getElem?_eq_some_iff.1 hh).1,fun j hj=>?_⟩
   rw [zan] at hj
   have hj2:j < k:=by rw [List.length_take] at hj;omega
   rw [Nat.zero_add,cell_of_row wr g j cur _ (0,0) hh,←ht,List.getElem?_take,if_pos (by omega),Array.getElem?_toList]
end Go.Proofs.Ytkdlfbggddllhaa
namespace Go.Proofs.Ytkdlfbggddllhaa
open Go.RowKit
set_option maxRecDepth 8000
def StepI (I : (Nat → Bool) → World → Prop) (X : Nat → Value → World → Prop) (S : Nat → Bool) (v : Nat → Value) (a : Act) (o : Oper) (i : Nat) (a' : Act) (w' : World) : Prop :=
 ∃u,a'=a.put o.dst u∧X i u w'∧I (fun j=>S j || j==i) w'∧∀j,S j=true→X j (v j) w'
theorem region_inv {P : Program} {ops : Array Oper} {Q : Exit → Act → World → Prop} {id : Nat} {w : World} (hm : P.follows .mixedOrders = true) (a0 : Act) (I : (Nat → Bool) → World → Prop) (X : Nat → Value → World → Prop) (hB : setB2 ops a0.tmps.size = true) (hD : ∀ c c', I (fun _ => false) c → Below c.heap.size c c' → I (fun _ => false) c') (h1 : I (fun _ => false) w)
 (hstep : ∀ (i : Nat) (o : Oper), ops[i]? = some o → ∀ (v : Nat → Value) (S : Nat → Bool) (c : World) (a : Act), I S c → (∀ j, S j = true → X j (v j) c) → S i = false → (∀ e ∈ o.after, Region.binds .any e = true → S e.on = true) → SlotsIn ops a0 S v a → Closed ops S →
  o.wp P a c (StepI I X S v a o i) Q)
 (hend:∀(v:Nat→Value) (c:World) (S:Nat→Bool),(∀j,j < ops.size→S j=true)→I S c→(∀j,j < ops.size→X j (v j) c)→Q .normal (zaF v 0 ops.toList a0) c):(Code.region id ops true).wp P Q a0 w:=by
 refine zaX hm a0 (fun v=>v) (fun v S c=>I S c∧∀j,S j=true→X j (v j) c) hB (fun _=>undef) ⟨hD _ _ h1 (zba _ _ 1),fun j h=>by cases h⟩ ?_ (fun v c S hall hW=>hend v c S hall hW.1 fun j hj=>hW.2 j (hall j hj))
 intro i o ho v S c a hW hSi hdep hS hC
 refine Oper.wp_mono ?_ (hstep i o ho v S c a hW.1 hW.2 hSi hdep hS hC)
 rintro a' w' ⟨u,e,h2,h3,h4⟩
 refine ⟨fun j=>if j=i then u else v j,fun j hj=>?_,by simpa using e,h3,fun j hj=>?_⟩
 · have : j ≠ i := by rintro rfl; rw [hSi] at hj; cases hj
   simp [this]
 · by_cases hji : j = i
   · subst hji;simpa using h2
   · have hSj : S j = true := by simpa [hji] using hj
     simp only [hji,if_false]
     exact h4 j hSj
theorem or_false {S : Nat → Bool} {j i : Nat} (h : (S j || j == i) = false) : S j = false := by
 rcases hq:S j with _ | _
 · rfl
 · rw [hq] at h;cases h
theorem or_at {S : Nat → Bool} {i : Nat} (h : (S i || i == i) = false) : False := by
 rw [show (i==i)=true by simp,Bool.or_true] at h
 cases h
theorem zaV {S:Nat→Bool} {j i:Nat} (h:(S j || j==i)=true) (hne:(j==i)=false):S j=true:=by rwa [hne,Bool.or_false] at h
theorem zbc {ops : Array Oper} {S : Nat → Bool} (hC : Closed ops S) {i j : Nat} (hSi : S i = false) {oj : Oper} (e : Edge) (hj : ops[j]? = some oj) (he : e ∈ oj.after) (hb : Region.binds .any e = true) (hon : e.on = i) : S j = false := by
 rcases hq:S j with _ | _
 · rfl
 · have := hC j oj hj hq e he hb
   rw [hon,hSi] at this
   cases this
theorem zaY {P : Program} {a : Act} {w : World} {K : Act → World → Prop} {Q : Exit → Act → World → Prop} {o : Oper} (ty : TypeId) (x : Operand) (ho : o.op = .load ty x) (g k : Nat) (hx : a.eval x = .pointer (some ⟨g, k, none⟩)) (vs : List Value) (d : TypeDesc)
 (h:w.rangeAt g k vs) (hu:P.underlying ty=some d) (hd:d.isRow=true) (hi:(P.info? ty).map (·.size)=some vs.length) (hK:K (a.put o.dst (.agg vs.toArray)) w):o.wp P a w K Q :=
 wp_load_mid ty x ho g k hx vs d h hu hd hi hK
end Go.Proofs.Ytkdlfbggddllhaa
