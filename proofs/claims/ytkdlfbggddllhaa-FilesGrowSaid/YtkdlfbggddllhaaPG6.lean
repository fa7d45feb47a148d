/-
  What is proved here: plain arithmetic of days and dates of the years 1900 to 2099; nothing of the program is used.
-/
import Derived.Test.YtkdlfbggddllhaaRows
import Derived.Test.YtkdlfbggddllhaaPG0
import Derived.Test.YtkdlfbggddllhaaPG4
import Derived.Laws.ResultCell
import Derived.Laws.Rows
import Derived.BigQuiet
set_option linter.unusedVariables false
set_option linter.unusedSimpArgs false
namespace Go.Proofs.Ytkdlfbggddllhaa.Cal
def ys (y:Int):Int:=(y - 1900)*365+(if y≤1900 then 0 else (y - 1901) / 4)
end Go.Proofs.Ytkdlfbggddllhaa.Cal
namespace Go.Proofs.Ytkdlfbggddllhaa
open Go.RowKit
set_option maxRecDepth 8000
theorem made_mod (n m : Int) (lo : -9223372036854775808 ≤ n) (hi : n ≤ 9223372036854775807) (hm : 0 < m) (hm2 : m ≤ 4611686018427387903) (w : World) :
 Calls Try.prog 27 #[.int .i64 n,.int .i64 m] w fun e w'=>e=.returned (.int .i64 (n % m))∧w'=w:=by
 have hne:m≠0:=by omega
 have ht:=Int.tmod_eq_emod (a:=n) (b:=m)
 have hr0:=Int.emod_nonneg n hne
 have hr1:=Int.emod_lt_of_pos n hm
 by_cases h:n.tmod m < 0
 · have e : n.tmod m + m = n % m := by
    split at ht
    · omega
    · have : ((m.natAbs : Int)) = m := by omega
      omega
   have lt:-m≤n.tmod m:=by rw [←e] at hr0;omega
   have E:=Lib.hid e
   have HM:=Lib.hid hm2
   clear ht e
   go_enter Try.func27,Try.ntmps27
   go_wp2_with fail
   go_ret
   exact ⟨by rw [←E.out];rfl,rfl⟩
 · have e : n.tmod m = n % m := by
    split at ht
    · omega
    · have : ((m.natAbs : Int)) = m := by omega
      omega
   have E:=Lib.hid e
   clear ht e
   go_enter Try.func27,Try.ntmps27
   go_wp2_with fail
   go_ret
   exact ⟨by rw [←E.out];rfl,rfl⟩
end Go.Proofs.Ytkdlfbggddllhaa
namespace Go.Proofs.Ytkdlfbggddllhaa
open Go.RowKit
set_option maxRecDepth 8000
def DiceOk (w : World) (D : Nat) : Prop := ∃ (AL : Option Addr) (cL k : Nat) (ls : List Int), w.heap[D]? = some (.cells #[.slice AL ls.length cL, .int .i64 (k : Int)] 68 (0, 0)) ∧
 k≤ls.length∧ls.length≤140737488351232∧(∀x∈ls,-9223372036854775808≤x∧x≤9223372036854775807)∧SeesP w (· < D) AL (ls.map (Value.int .i64))
theorem DiceOk.lt {w : World} {D : Nat} (h : DiceOk w D) : D < w.heap.size := by
 obtain ⟨_,_,_,_,h1,_⟩:=h
 exact lt_of_block h1
theorem DiceOk.keep {w w' : World} {D : Nat} (h : DiceOk w D) (hk : ∀ k, k ≤ D → w'.heap[k]? = w.heap[k]?) : DiceOk w' D := by
 obtain ⟨AL,cL,k,ls,h1,h2,h3,h4,h5⟩:=h
 exact ⟨AL,cL,k,ls,(hk D (Nat.le_refl _)).trans h1,h2,h3,h4,h5.keep fun q hq=>World.cell?_of_block (hk _ (Nat.le_of_lt hq))⟩
theorem DiceOk.below {w w' : World} {D : Nat} (h : DiceOk w D) (hb : Below w.heap.size w w') : DiceOk w' D :=
 h.keep fun k hk=>hb.block k (Nat.lt_of_le_of_lt hk h.lt)
theorem DiceOk.grown {w w' : World} {D : Nat} {row : Option Nat} (h : DiceOk w D) (hg : w.grownBy w' row) (hr : ∀ g, row = some g → D < g) : DiceOk w' D :=
 h.keep fun k hk=>hg.block k (Nat.lt_of_le_of_lt hk h.lt) (by intro e;have:=hr k e.symm;omega)
def NextIs (w:World) (D n:Nat) (e:Ending) (w':World):Prop:=∃r:Nat,r < n∧e=.returned (.int .i64 (r:Int))∧w.grownBy w' (some D)∧DiceOk w' D
set_option maxHeartbeats 1000000 in
theorem dice_next (D n : Nat) (w : World) (hn : 0 < n) (hn2 : n ≤ 4611686018427387903) (h : DiceOk w D) :
 Calls Try.prog 17 #[.pointer (some ⟨D,0,none⟩),.int .i64 (n:Int)] w (NextIs w D n):=by
 obtain ⟨AL,cL,k,ls,h1,h2,h3,h4,h5⟩:=h
 have c0:=cell_of_row w D 0 _ _ _ h1
 have c1:=cell_of_row w D 1 _ _ _ h1
 have f1:=frozen_of_row w D 1 _ _ h1
 simp only [List.getElem?_toArray,List.getElem?_cons_succ,List.getElem?_cons_zero] at c0 c1
 by_cases hlt:k < ls.length
 · obtain ⟨x, hx⟩ : ∃ x, x = ls[k] := ⟨_, rfl⟩
   have hxr:=h4 x (by rw [hx];exact List.getElem_mem hlt)
   obtain ⟨b, o, hA, hb, hc⟩ : ∃ b o, AL = some ⟨b, o, none⟩ ∧ b < D ∧ w.cell? ⟨b, o + k, none⟩ = some (.int .i64 x) := by
    rcases h5 with h | ⟨b,o,e,hb,hc⟩
    · have : ls = [] := by simpa using h
      subst this;simp at hlt
    · exact ⟨b,o,e,hb,(hc k (by simpa using hlt)).trans (by simp [hlt,hx])⟩
   have hne:b≠D:=by omega
   have HS:=Lib.hid h5
   subst hA
   obtain ⟨r,hr⟩ : ∃r:Nat,x % (n:Int)=(r:Int):=⟨(x % (n:Int)).toNat,by have:=Int.emod_nonneg x (show (n:Int)≠0 by omega);omega⟩
   have hrn:r < n:=by have:=Int.emod_lt_of_pos x (show (0:Int) < n by omega);omega
   have hM : ∀ u, Calls Try.prog 27 #[.int .i64 x, .int .i64 (n : Int)] u fun e w' => e = .returned (.int .i64 (r : Int)) ∧ ∃ q, w' = u.drewN q := fun u => by
    have:=made_mod x (n:Int) hxr.1 hxr.2 (by omega) (by omega) u
    rw [hr] at this
    exact this.mono fun e w' ⟨h1,h2⟩=>⟨h1,0,h2⟩
   have HM:=Lib.hid hM
   have H1:=Lib.hid (show _∧(∀x∈ls,-9223372036854775808≤x∧x≤9223372036854775807) from ⟨h1,h4⟩)
   clear hM hx hr h1 h4 h5 hxr
   go_enter Try.func17,Try.ntmps17
   go_wp2_with fail
   go_quiet (fail)
   go_wp2_with fail
   obtain ⟨W,hW⟩ : ∃W,W=(w.drewN nq).setCell ⟨D,1,none⟩ (.int .i64 ((k:Int)+1)):=⟨_,rfl⟩
   have e0:W.cell? ⟨D,0,none⟩=some (.slice (some ⟨b,o,none⟩) ls.length cL):=by rw [hW,cell_of_row _ D 0 _ _ _ (zaM (w:=w.drewN nq) (i:=1) H1.out.1 _)];rfl
   have e1:W.cell? ⟨D,1,none⟩=some (.int .i64 ((k:Int)+1)):=by rw [hW,cell_of_row _ D 1 _ _ _ (zaM (w:=w.drewN nq) (i:=1) H1.out.1 _)];rfl
   have e2:W.cell? ⟨b,o+k,none⟩=some (.int .i64 x):=by rw [hW];exact (World.cell?_of_block (Below.heap_setCell _ _ _ b hne)).trans hc
   have hg : w.grownBy W (some D) := by
    rw [hW]
    exact ⟨rfl,rfl,rfl,Nat.le_of_eq (by simp),fun j _ hj=>Below.heap_setCell (w.drewN nq) _ _ j (by simpa using fun e=>hj (by rw [e]))⟩
   have hd:DiceOk W D:=⟨some ⟨b,o,none⟩,cL,k+1,ls,by rw [hW];exact zaM (w:=w.drewN nq) (i:=1) H1.out.1 _,by omega,h3,H1.out.2,HS.out.keep fun q hq=>zaz hg (Nat.lt_trans hq (lt_of_block H1.out.1)) (Nat.ne_of_lt hq)⟩
   have HF:=Lib.hid (show ∀q,NextIs w D n (.returned (.int .i64 (r:Int))) (W.drewN q) from fun q=>⟨r,hrn,rfl,⟨hg.os,hg.tape,hg.output,hg.size,hg.block⟩,hd.keep fun _ _=>rfl⟩)
   rw [←hW]
   clear hW hg hd c0 c1 f1 hc HS H1
   go_quiet ((go_at_call 27;exact Calls.quiet_of (HM.out _)))
   go_wp2_with fail
   go_ret
   exact HF.out _
 · have HF := Lib.hid (show DiceOk w D from ⟨AL, cL, k, ls, h1, h2, h3, h4, h5⟩)
   clear h1 h4 h5
   go_enter Try.func17,Try.ntmps17
   go_wp2_with fail
   go_quiet (fail)
   go_wp2_with fail
   go_ret
   exact ⟨0,hn,rfl,⟨rfl,rfl,rfl,Nat.le_refl _,fun _ _ _=>rfl⟩,HF.out.keep fun _ _=>rfl⟩
def OneIs (w:World) (D:Nat) (e:Ending) (w':World):Prop:=∃q:Bool,e=.returned (.bool q)∧w.grownBy w' (some D)∧DiceOk w' D
theorem dice_one (D n : Nat) (w : World) (hn : 0 < n) (hn2 : n ≤ 4611686018427387903) (h : DiceOk w D) :
 Calls Try.prog 15 #[.pointer (some ⟨D,0,none⟩),.int .i64 (n:Int)] w (OneIs w D):=by
 have HN:=Lib.hid (dice_next D n w hn hn2 h)
 clear h
 go_enter Try.func15,Try.ntmps15
 go_wp2_with fail
 refine HN.out.mono ?_
 rintro e w1 ⟨r,hr,rfl,hg,hd⟩
 have HF:=Lib.hid (show _∧_ from ⟨hg,hd⟩)
 clear hg hd
 go_wp2_with fail
 go_ret
 exact ⟨_,rfl,HF.out.1,HF.out.2⟩
end Go.Proofs.Ytkdlfbggddllhaa
