/-
  What is proved here: the law FilesGrow, as a function: whatever numbers it is handed.
-/
import Derived.Test.YtkdlfbggddllhaaPG31
import Derived.Test.YtkdlfbggddllhaaPG29
import Derived.Test.YtkdlfbggddllhaaPG17
import Derived.SizedLaws
import Derived.Deep.Slices
import Derived.ProofKit
import Derived.OpenShut
import Derived.WalkKit
import Derived.Lib.SmallJoins
set_option linter.unusedVariables false
set_option linter.unusedSimpArgs false
namespace Go.Proofs.Ytkdlfbggddllhaa
open Go.RowKit
set_option maxRecDepth 8000
theorem alw_ch {lv rt : Int} {s : Sta} (h : alwB lv rt s = true) : alwB lv rt ⟨s.pw, s.ba, true, s.te, s.rs⟩ = true := by
 unfold alwB at h ⊢
 split at h <;> (try split at h) <;> (try split at h) <;> (try split at h) <;> simp_all
theorem alw_te {lv rt : Int} {s : Sta} (h : alwB lv rt s = true) : alwB lv rt ⟨s.pw, s.ba, s.ch, true, s.rs⟩ = true := by
 unfold alwB at h ⊢
 split at h <;> (try split at h) <;> (try split at h) <;> (try split at h) <;> simp_all
theorem bit_or {r k : Nat} {rt : Int} (h : bitB (r : Int) rt = true) : bitB ((r ||| 2 ^ k : Nat) : Int) rt = true := by
 unfold bitB at h ⊢
 have key : ∀ n : Nat, (((n : Nat) : Int) / 2 ^ rt.toNat % 2 = 1) ↔ n.testBit rt.toNat = true := by
  intro n
  rw [Nat.testBit_eq_decide_div_mod_eq,decide_eq_true_iff]
  have e:((2:Int) ^ rt.toNat)=((2 ^ rt.toNat:Nat):Int):=by simp
  rw [e]
  omega
 rw [decide_eq_true_iff,key] at h ⊢
 rw [Nat.testBit_or,h,Bool.true_or]
theorem alw_rs {lv rt : Int} {s : Sta} {r k : Nat} (hr : s.rs = (r : Int)) (h : alwB lv rt s = true) : alwB lv rt ⟨s.pw, s.ba, s.ch, s.te, ((r ||| 2 ^ k : Nat) : Int)⟩ = true := by
 unfold alwB at h ⊢
 rw [hr] at h
 split at h <;> (try split at h) <;> (try split at h) <;> (try split at h) <;> simp_all
 exact bit_or h.2.2.2
theorem or_bd {r k:Nat} (hr:r < 65536) (hk:k < 16):(r ||| 2 ^ k) < 65536:=Nat.or_lt_two_pow (n:=16) hr (Nat.pow_lt_pow_right (by decide) hk)
theorem shl_1 (k : Nat) (hk : k < 16) (x y : Operand) (w : World) : (do eqGuard .shl 3 x y (.int .i64 1) (.int .u64 (k : Int)); binOp .shl 3 (.int .i64 1) (.int .u64 (k : Int))).run Try.prog w = .ok (.int .i64 ((2 ^ k : Nat) : Int)) w := by
 match k,hk with
 | 0,_ | 1,_ | 2,_ | 3,_ | 4,_ | 5,_ | 6,_ | 7,_ | 8,_ | 9,_ | 10,_ | 11,_ | 12,_ | 13,_ | 14,_ | 15,_=>simp [eqGuard,binOp,go_sem,Op.shift];try decide
 | n+16,h=>omega
theorem or_i (a b : Nat) (ha : a < 65536) (hb : b < 65536) (x y : Operand) (w : World) : (do eqGuard .or 3 x y (.int .i64 (a : Int)) (.int .i64 (b : Int)); binOp .or 3 (.int .i64 (a : Int)) (.int .i64 (b : Int))).run Try.prog w = .ok (.int .i64 ((a ||| b : Nat) : Int)) w := by
 have h:(a ||| b) < 65536:=Nat.or_lt_two_pow (n:=16) ha hb
 have e : bits .or .i64 (a : Int) (b : Int) = ((a ||| b : Nat) : Int) := by
  show IntKind.i64.wrap ((BitVec.ofInt 64 (a:Int) ||| BitVec.ofInt 64 (b:Int)).toNat:Int)=_
  rw [BitVec.toNat_or,BitVec.toNat_ofInt,BitVec.toNat_ofInt,IntKind.wrap_i64]
  rw [show ((a:Int) % (2 ^ 64:Nat)).toNat=a by omega,show ((b:Int) % (2 ^ 64:Nat)).toNat=b by omega]
  omega
 rw [←e]
 simp [eqGuard,binOp,go_sem]
theorem cv_iuN (k:Nat) (hk:k < 16) (w:World):(convert 3 57 (.int .i64 (k:Int))).run Try.prog w=.ok (.int .u64 (k:Int)) w:=cv_iu k (by omega) (by omega) w
def upd (v:Nat→Value) (i:Nat) (u:Value):Nat→Value:=fun j=>if j=i then u else v j
theorem zaw (v:Nat→Value) (i:Nat) (u:Value):upd v i u i=u:=by simp [upd]
theorem zar {v : Nat → Value} {S : Nat → Bool} {i : Nat} {u : Value} (h : S i = false) : ∀ j, S j = true → upd v i u j = v j := by
 intro j hj
 have:j≠i:=by rintro rfl;rw [h] at hj;cases hj
 simp [upd,this]
def CpW (w9 : World) (ss zs : List Value) (v : Nat → Value) (S : Nat → Bool) (c : World) : Prop :=
 Below w9.heap.size w9 c∧(∀j,j < 3→S j=true→v j=.agg ss.toArray)∧(∀j,3≤j→j < 6→S j=true→∃g,v j=.pointer (some ⟨g,0,none⟩)∧w9.heap.size≤g∧RowV c g (if S (j+3)=true then ss else zs)) ∧
 ∀i j g,3≤i→i < 6→3≤j→j < 6→i≠j→S i=true→S j=true→v i=.pointer (some ⟨g,0,none⟩)→v j≠.pointer (some ⟨g,0,none⟩)
section
variable {w9 c c':World} {ss zs:List Value} {v v':Nat→Value} {S:Nat→Bool} {j g:Nat}
theorem zaN {i:Nat} (h:(S i || i==j)=true) (hne:i≠j):S i=true:=by simpa [hne] using h
theorem or_eq {i:Nat} (hne:i≠j):(S i || i==j)=S i:=by simp [hne]
theorem CpW.start (hb:Below w9.heap.size w9 c):CpW w9 ss zs v (fun _=>false) c:=⟨hb,(fun j _ h=>by cases h),(fun j _ _ h=>by cases h),(fun i j g _ _ _ _ _ h=>by cases h)⟩
theorem CpW.load (h : CpW w9 ss zs v S c) (hj : j < 3) (ho : ∀ i, S i = true → v' i = v i) (hv : v' j = .agg ss.toArray) : CpW w9 ss zs v' (fun i => S i || i == j) c := by
 refine ⟨h.1,fun i hi hS=>?_,fun i h3 h6 hS=>?_,fun i k g h1 h2 h3 h4 h5 h6 h7 h8=>?_⟩
 · by_cases e : i = j
   · rw [e];exact hv
   · have hS' := zaN hS e
     rw [ho i hS'];exact h.2.1 i hi hS'
 · have hS' := zaN hS (by omega)
   obtain ⟨g,h1,h2,h4⟩:=h.2.2.1 i h3 h6 hS'
   refine ⟨g,by rw [ho i hS'];exact h1,h2,?_⟩
   show RowV c g (if (S (i+3) || (i+3)==j)=true then ss else zs)
   rw [or_eq (by omega)];exact h4
 · have a1 := zaN h6 (by omega)
   have a2:=zaN h7 (by omega)
   rw [ho i a1] at h8
   rw [ho k a2]
   exact h.2.2.2 i k g h1 h2 h3 h4 h5 a1 a2 h8
theorem CpW.alloc (h : CpW w9 ss zs v S c) (hj : 3 ≤ j) (hj6 : j < 6) (hf : Fresh c c' g) (hr : RowV c' g zs) (h3 : S (j + 3) = false) (ho : ∀ i, S i = true → v' i = v i) (hv : v' j = .pointer (some ⟨g, 0, none⟩)) : CpW w9 ss zs v' (fun i => S i || i == j) c' := by
 have key : ∀ i, 3 ≤ i → i < 6 → S i = true → v i ≠ .pointer (some ⟨g, 0, none⟩) := by
  intro i h1 h2 hS e
  obtain ⟨g',e1,_,hrow⟩:=h.2.2.1 i h1 h2 hS
  rw [e1] at e
  injection e with e
  injection e with e
  injection e with e
  exact hrow.ne hf e
 refine ⟨hf.bl h.1,fun i hi hS=>?_,fun i h3' h6 hS=>?_,fun i k g' h1 h2 h3' h4 h5 h6 h7 h8=>?_⟩
 · have hS' := zaN hS (by omega)
   rw [ho i hS'];exact h.2.1 i hi hS'
 · show ∃ g, v' i = .pointer (some ⟨g, 0, none⟩) ∧ w9.heap.size ≤ g ∧ RowV c' g (if (S (i + 3) || (i + 3) == j) = true then ss else zs)
   rw [or_eq (by omega)]
   by_cases e:i=j
   · subst e
     refine ⟨g,hv,hf.ge h.1,?_⟩
     rw [if_neg (by rw [h3];decide)]
     exact hr
   · have hS' := zaN hS e
     obtain ⟨g',h1,h2,h4⟩:=h.2.2.1 i h3' h6 hS'
     exact ⟨g',by rw [ho i hS'];exact h1,h2,h4.fresh hf⟩
 · by_cases e : i = j
   · subst e
     rw [hv] at h8
     have a2:=zaN h7 (by omega)
     rw [ho k a2,←h8]
     exact key k h3' h4 a2
   · have a1 := zaN h6 e
     by_cases e2:k=j
     · subst e2
       rw [ho i a1] at h8
       rw [hv]
       intro e3
       exact key i h1 h2 a1 (by rw [h8,e3])
     · have a2 := zaN h7 e2
       rw [ho i a1] at h8
       rw [ho k a2]
       exact h.2.2.2 i k g' h1 h2 h3' h4 h5 a1 a2 h8
theorem CpW.store (h : CpW w9 ss zs v S c) (hj : 3 ≤ j) (hj6 : j < 6) (hSj : S j = true) (hv : v j = .pointer (some ⟨g, 0, none⟩)) (hw : Wr c c' g) (hr : RowV c' g ss) (hg : w9.heap.size ≤ g) (ho : ∀ i, S i = true → v' i = v i) : CpW w9 ss zs v' (fun i => S i || i == j + 3) c' := by
 refine ⟨Wr.bl h.1 hw hg,fun i hi hS=>?_,fun i h3' h6 hS=>?_,fun i k g' h1 h2 h3' h4 h5 h6 h7 h8=>?_⟩
 · have hS' := zaN hS (by omega)
   rw [ho i hS'];exact h.2.1 i hi hS'
 · have hS' := zaN hS (by omega)
   by_cases e:i=j
   · subst e
     refine ⟨g,by rw [ho i hS'];exact hv,hg,?_⟩
     rw [if_pos (by simp)]
     exact hr
   · obtain ⟨g', h1, h2, h4⟩ := h.2.2.1 i h3' h6 hS'
     refine ⟨g',by rw [ho i hS'];exact h1,h2,?_⟩
     show RowV c' g' (if (S (i+3) || (i+3)==j+3)=true then ss else zs)
     rw [or_eq (by omega)]
     refine h4.wr hw fun e2=>?_
     subst e2
     exact h.2.2.2 i j g' h3' h6 hj hj6 e hS' hSj h1 hv
 · have a1 := zaN h6 (by omega)
   have a2:=zaN h7 (by omega)
   rw [ho i a1] at h8
   rw [ho k a2]
   exact h.2.2.2 i k g' h1 h2 h3' h4 h5 a1 a2 h8
end
theorem OwnD.add {w cur : World} {D g : Nat} {L : List (Nat × List Value)} {vs : List Value} (h : OwnD w D cur L) (hge : w.heap.size ≤ g) (hr : RowV cur g vs) (hlt : ∀ x ∈ L, x.1 ≠ g) : OwnD w D cur (L ++ [(g, vs)]) := by
 refine ⟨h.1,fun i g' vs' e=>?_,fun i j g1 g2 v1 v2 e1 e2 hne=>?_⟩
 · rw [List.getElem?_append] at e
   split at e
   · exact ⟨h.ge e,h.row e⟩
   · have e' : g' = g ∧ vs' = vs := by
      rcases hk:i - L.length with _ | k
      · rw [hk] at e;simp at e;exact ⟨e.1.symm,e.2.symm⟩
      · rw [hk] at e;simp at e
     obtain ⟨rfl,rfl⟩:=e'
     exact ⟨hge,hr⟩
 · rw [List.getElem?_append] at e1 e2
   have key : ∀ (k : Nat) (x : Nat) (y : List Value), [(g, vs)][k]? = some (x, y) → k = 0 ∧ x = g := by
    intro k x y e
    rcases k with _ | k
    · simp at e;exact ⟨rfl,e.1.symm⟩
    · simp at e
   split at e1 <;> split at e2
   · exact h.2.2 i j g1 g2 v1 v2 e1 e2 hne
   · obtain ⟨_,rfl⟩:=key _ _ _ e2;exact hlt _ (List.mem_of_getElem? e1)
   · obtain ⟨_,rfl⟩:=key _ _ _ e1;exact (hlt _ (List.mem_of_getElem? e2)).symm
   · have:=(key _ _ _ e1).1;have:=(key _ _ _ e2).1;omega
theorem zak {P : Program} {ops : Array Oper} {rest : List Oper} {o : Oper} {a : Act} {w : World} {Q : Exit → Act → World → Prop} (hw : Region.wanted o (yielded ops a.tmps) = true) (ty : TypeId) (x : Operand) (ho : o.op = .load ty x) (g : Nat) (hx : a.eval x = .pointer (some ⟨g, 0, none⟩)) (vs : List Value) (d : TypeDesc)
 (h:RowV w g vs) (hu:P.underlying ty=some d) (hd:d.isRow=true) (hi:(P.info? ty).map (·.size)=some vs.length) (hK:wpList P ops Q rest (a.put o.dst (.agg vs.toArray)) w):wpList P ops Q (o::rest) a w:=by
 refine wpList_step fun K hK2=>?_
 rw [if_pos hw]
 exact zaY ty x ho g 0 hx vs d h.whole hu hd hi (hK2 _ _ hK)
def XG (g9 D r : Nat) (i : Nat) (u : Value) : Prop := match i with
 | 0=>u=.pointer (some ⟨g9,4,none⟩)
 | 1=>u=.int .i64 (r:Int)
 | 2=>u=.pointer (some ⟨D,0,none⟩)
 | 3=>∃k:Nat,k < 16∧u=.int .i64 (k:Int)
 | 4=>∃k:Nat,k < 16∧u=.int .u64 (k:Int)
 | 5=>∃k:Nat,k < 16∧u=.int .i64 ((2 ^ k:Nat):Int)
 | 6=>∃k:Nat,k < 16∧u=.int .i64 ((r ||| 2 ^ k:Nat):Int)
 | 7=>u=.pointer (some ⟨g9,4,none⟩)
 | _=>True
theorem fa_st4 (g:Nat) (w:World):(Instr.fieldAt 29 (.pointer (some ⟨g,0,none⟩)) 4).run Try.prog w=.ok (.pointer (some ⟨g,4,none⟩)) w:=by kernel_rfl
set_option maxHeartbeats 12800000 in
theorem zbi (A : Option Addr) (c : Nat) (ls : List Int) (w : World) (hl : ls.length ≤ 140737488351232) (hr : ∀ x ∈ ls, -9223372036854775808 ≤ x ∧ x ≤ 9223372036854775807) (hs : SeesP w (· < w.heap.size) A (ls.map (Value.int .i64))) :
 Calls Try.prog 6 #[.slice A ls.length c] w fun e w'=>e=.returned (.bool true)∧Below w.heap.size w w':=by
 have HR:=Lib.hid (made_roll_Bb A c ls w hl hr hs)
 have HL:=Lib.hid (made_light A ls.length c w hl)
 obtain ⟨m,hm⟩ : ∃z,ls.length=z:=⟨_,rfl⟩
 rw [hm] at HR HL ⊢
 obtain ⟨lg,hlg⟩ : ∃z,decide (m≤400)=z:=⟨_,rfl⟩
 rw [hlg] at HL
 clear hl hr hs hm hlg
 rcases lg with _ | _
 · go_enter Try.func6, Try.ntmps6
   go_wp2_with (first
    | (go_at_call 9;((with_reducible refine HL.out.mono ?_);rintro e w1 ⟨rfl,hw1⟩);(have hw2:=hw1.symm;clear hw1;subst hw2))
    | (go_at_call 10;((with_reducible refine (awake17 _).mono ?_);rintro e w2 ⟨rfl,hb⟩);have H2:=Lib.hid hb;clear hb))
   go_ret
   exact ⟨rfl,H2.out⟩
 obtain ⟨D,hD⟩ : ∃z,w.heap.size=z:=⟨_,rfl⟩
 rw [hD] at HR
 have HBR:=Lib.hid (show ∀a b,Below w.heap.size w a→a.grownBy b (some D)→Below w.heap.size w b from fun a b h hg=>below_row h (by rw [hD];exact hg))
 have HBD:=Lib.hid (show ∀b,Below D w b→Below w.heap.size w b from fun b h=>by rw [hD];exact h)
 have HN:=Lib.hid (next_l D)
 have HAC:=Lib.hid (dice_access D)
 have HST:=Lib.hid (dice_state D)
 clear hD
 go_enter Try.func6,Try.ntmps6
 go_wp2_with (first
  | (go_at_call 9;((with_reducible refine HL.out.mono ?_);rintro e w1 ⟨rfl,hw1⟩);(have hw2:=hw1.symm;clear hw1;subst hw2))
  | (go_at_call 11;((with_reducible refine HR.out.mono ?_);rintro e w2 ⟨rfl,hd,hb⟩);have H0:=Lib.hid (HBD.out _ hb);have H:=Lib.hid (OwnD.start hd);clear hb hd)
  | (go_at_call 25;((with_reducible refine (HAC.out _ H.out.ok).mono ?_);rintro e w3 ⟨lv,rt,rfl,hg,hd⟩);have H:=Lib.hid (H.out.dice hg hd);clear hg hd)
  | (go_at_call 14;((with_reducible refine (HST.out _ H.out.ok).mono ?_);rintro e w4 ⟨s,r,rfl,hsr,hrb,hg,hd⟩);have H:=Lib.hid (H.out.dice hg hd);have HSR:=Lib.hid hsr;clear hg hd hsr)
  | ((with_reducible refine zaj (d:=4) ?_);refine zae (op:=⟨some 4,_,_,_,_,_⟩) rfl 54 rfl (cnV 0 0) info_cz ?_;intro g4 w5 hf hr;have H:=Lib.hid (H.out.new hf hr);clear hf hr)
  | ((with_reducible refine zaj (d:=5) ?_);refine zae (op:=⟨some 5,_,_,_,_,_⟩) rfl 29 rfl st0.cs zaJ ?_;intro g5 w6 hf hr;have H:=Lib.hid (H.out.new hf hr);clear hf hr)
  | ((with_reducible refine zah (i:=4) ?_);go_must (refine zaf rfl 54 (.tmp 4) _ rfl g4 (cnV 0 0) (cnV lv rt) rfl rfl (H.out.row (i:=0) rfl) rfl (cn_one _ _) zat ?_);intro w7 hw hr;have H:=Lib.hid (H.out.set (i:=0) rfl hw hr);clear hw hr)
  | ((with_reducible refine zah (i:=5) ?_);go_must (refine zaf rfl 29 (.tmp 5) _ rfl g5 st0.cs s.cs rfl rfl (H.out.row (i:=1) rfl) rfl (Sta.cs_one _) zao ?_);intro w8 hw hr;have H:=Lib.hid (show OwnD w2 D w8 [(g4,cnV lv rt),(g5,s.cs)] from H.out.set (i:=1) rfl hw hr);have HAL:=Lib.hid (fun u=>zaE lv rt s (by rw [HSR.out];omega) (by rw [HSR.out];omega) u);have HRA:=Lib.hid (fun u=>r_allowed lv rt s (by rw [HSR.out];omega) (by rw [HSR.out];omega) u);clear hw hr)
  | ((with_reducible refine zac (d:=20) ?_);go_must (refine zab rfl 54 (.tmp 4) rfl g4 rfl (cnV lv rt) _ (H.out.row (i:=0) rfl) Try.underlying54 rfl zat ?_))
  | ((with_reducible refine zac (d:=21) ?_);go_must (refine zab rfl 29 (.tmp 5) rfl g5 rfl s.cs _ (H.out.row (i:=1) rfl) Try.underlying29 rfl zao ?_))
  | (go_at_call 23;((with_reducible refine (HAL.out _).mono ?_);rintro e w9 ⟨rfl,hb⟩);have H:=Lib.hid (H.out.on hb);clear hb))
 have HRW:=Lib.hid (fun c (hb:Below w9.heap.size w9 c)=>(H.out.row (i:=1) rfl).on hb)
 refine zaX (by kernel_rfl) _ (fun v=>v) (CpW w9 s.cs st0.cs) (by kernel_rfl) (fun _=>undef) (CpW.start (zba _ _ 1)) ?_ ?_
 · refine ops_all (allI.cons ?_ (allI.cons ?_ (allI.cons ?_ (allI.cons ?_ (allI.cons ?_ (allI.cons ?_ (allI.cons ?_ (allI.cons ?_ (allI.cons ?_ allI.nil))))))))) <;> intro v S c a hW hSi hdep hS hC
   · exact zaY 29 (.tmp 5) rfl g5 0 (hS.old 5 rfl) s.cs _ (HRW.out c hW.1).whole Try.underlying29 rfl zao ⟨upd v 0 _,zar hSi,by rw [zaw],hW.load (by decide) (zar hSi) (zaw ..)⟩
   · exact zaY 29 (.tmp 5) rfl g5 0 (hS.old 5 rfl) s.cs _ (HRW.out c hW.1).whole Try.underlying29 rfl zao ⟨upd v 1 _,zar hSi,by rw [zaw],hW.load (by decide) (zar hSi) (zaw ..)⟩
   · exact zaY 29 (.tmp 5) rfl g5 0 (hS.old 5 rfl) s.cs _ (HRW.out c hW.1).whole Try.underlying29 rfl zao ⟨upd v 2 _,zar hSi,by rw [zaw],hW.load (by decide) (zar hSi) (zaw ..)⟩
   · have h6 : S 6 = false := zbc hC hSi (i := 3) (j := 6) { on := 3, ground := Ground.data } rfl (by simp) rfl rfl
     exact zaO 29 rfl st0.cs zaJ fun g c' hf hr=>⟨upd v 3 _,zar hSi,by rw [zaw],hW.alloc (by decide) (by decide) hf hr h6 (zar hSi) (zaw ..)⟩
   · have h7 : S 7 = false := zbc hC hSi (i := 4) (j := 7) { on := 4, ground := Ground.data } rfl (by simp) rfl rfl
     exact zaO 29 rfl st0.cs zaJ fun g c' hf hr=>⟨upd v 4 _,zar hSi,by rw [zaw],hW.alloc (by decide) (by decide) hf hr h7 (zar hSi) (zaw ..)⟩
   · have h8 : S 8 = false := zbc hC hSi (i := 5) (j := 8) { on := 5, ground := Ground.data } rfl (by simp) rfl rfl
     exact zaO 29 rfl st0.cs zaJ fun g c' hf hr=>⟨upd v 5 _,zar hSi,by rw [zaw],hW.alloc (by decide) (by decide) hf hr h8 (zar hSi) (zaw ..)⟩
   · have hs3 := zap hdep 3 rfl
     obtain ⟨g,e1,hg,hrow⟩:=hW.2.2.1 3 (by decide) (by decide) hs3
     rw [hSi,if_neg (by decide)] at hrow
     exact zaR 29 (.tmp 7) (.tmp 23) rfl g st0.cs s.cs ((hS.get 3 hs3 rfl rfl).trans e1) ((hS.get 0 (zap hdep 0 rfl) rfl rfl).trans (hW.2.1 0 (by decide) (zap hdep 0 rfl))) hrow rfl (Sta.cs_one _) zao fun c' hw hr=>⟨upd v 6 undef,zar hSi,by rw [zaw],hW.store (j:=3) (by decide) (by decide) hs3 e1 hw hr hg (zar hSi)⟩
   · have hs3 := zap hdep 4 rfl
     obtain ⟨g,e1,hg,hrow⟩:=hW.2.2.1 4 (by decide) (by decide) hs3
     rw [hSi,if_neg (by decide)] at hrow
     exact zaR 29 (.tmp 8) (.tmp 24) rfl g st0.cs s.cs ((hS.get 4 hs3 rfl rfl).trans e1) ((hS.get 1 (zap hdep 1 rfl) rfl rfl).trans (hW.2.1 1 (by decide) (zap hdep 1 rfl))) hrow rfl (Sta.cs_one _) zao fun c' hw hr=>⟨upd v 7 undef,zar hSi,by rw [zaw],hW.store (j:=4) (by decide) (by decide) hs3 e1 hw hr hg (zar hSi)⟩
   · have hs3 := zap hdep 5 rfl
     obtain ⟨g,e1,hg,hrow⟩:=hW.2.2.1 5 (by decide) (by decide) hs3
     rw [hSi,if_neg (by decide)] at hrow
     exact zaR 29 (.tmp 9) (.tmp 25) rfl g st0.cs s.cs ((hS.get 5 hs3 rfl rfl).trans e1) ((hS.get 2 (zap hdep 2 rfl) rfl rfl).trans (hW.2.1 2 (by decide) (zap hdep 2 rfl))) hrow rfl (Sta.cs_one _) zao fun c' hw hr=>⟨upd v 8 undef,zar hSi,by rw [zaw],hW.store (j:=5) (by decide) (by decide) hs3 e1 hw hr hg (zar hSi)⟩
 intro v w10 S hall hW
 obtain ⟨g7,e7,hg7,hr7⟩:=hW.2.2.1 3 (by decide) (by decide) (hall 3 (by decide))
 obtain ⟨g8,e8,hg8,hr8⟩:=hW.2.2.1 4 (by decide) (by decide) (hall 4 (by decide))
 obtain ⟨g9,e9,hg9,hr9⟩:=hW.2.2.1 5 (by decide) (by decide) (hall 5 (by decide))
 rw [if_pos (hall _ (by decide))] at hr7 hr8 hr9
 have n78:g7≠g8:=fun e=>hW.2.2.2 3 4 g7 (by decide) (by decide) (by decide) (by decide) (by decide) (hall 3 (by decide)) (hall 4 (by decide)) e7 (by rw [e8,e])
 have n79:g7≠g9:=fun e=>hW.2.2.2 3 5 g7 (by decide) (by decide) (by decide) (by decide) (by decide) (hall 3 (by decide)) (hall 5 (by decide)) e7 (by rw [e9,e])
 have n89:g8≠g9:=fun e=>hW.2.2.2 4 5 g8 (by decide) (by decide) (by decide) (by decide) (by decide) (hall 4 (by decide)) (hall 5 (by decide)) e8 (by rw [e9,e])
 have l4:=(H.out.row (i:=0) rfl).lt
 have l5:=(H.out.row (i:=1) rfl).lt
 have hsz:=H.out.grown.size
 have H := Lib.hid (show OwnD w2 D w10 [(g4, cnV lv rt), (g5, s.cs), (g7, s.cs), (g8, s.cs), (g9, s.cs)] from
  (((H.out.on hW.1).add (by omega) hr7 (by simp only [List.forall_mem_cons];exact ⟨(by omega:g4≠g7),(by omega:g5≠g7),fun _ h=>by cases h⟩)).add (by omega) hr8 (by simp only [List.cons_append,List.nil_append,List.forall_mem_cons];exact ⟨(by omega:g4≠g8),(by omega:g5≠g8),n78,fun _ h=>by cases h⟩)).add (by omega) hr9 (by simp only [List.cons_append,List.nil_append,List.forall_mem_cons];exact ⟨(by omega:g4≠g9),(by omega:g5≠g9),n79,n89,fun _ h=>by cases h⟩))
 have v0:=hW.2.1 0 (by decide) (hall 0 (by decide))
 have v1:=hW.2.1 1 (by decide) (hall 1 (by decide))
 have v2:=hW.2.1 2 (by decide) (hall 2 (by decide))
 simp only [zaF,Act.put,e7,e8,e9,v0,v1,v2]
 simp
 clear hW hall hr7 hr8 hr9 e7 e8 e9 v0 v1 v2 n78 n79 n89 l4 l5 hsz hg7 hg8 hg9 HRW
 obtain ⟨pw,ba,ch,te,rs⟩:=s
 obtain rfl:rs=(r:Int):=HSR.out
 go_wp2_with (first
  | ((with_reducible refine zah (i:=26) ?_);go_must (refine zax rfl 4 (.tmp 26) _ rfl g7 2 (Sta.cs ⟨pw,ba,ch,te,r⟩) (.bool true) rfl rfl (H.out.row (i:=2) rfl) (by decide:2 < 5) rfl rfl (by kernel_rfl) ?_);intro w11 hw hr;have H:=Lib.hid (show OwnD w2 D w11 [(g4,cnV lv rt),(g5,Sta.cs ⟨pw,ba,ch,te,r⟩),(g7,Sta.cs ⟨pw,ba,true,te,r⟩),(g8,Sta.cs ⟨pw,ba,ch,te,r⟩),(g9,Sta.cs ⟨pw,ba,ch,te,r⟩)] from H.out.set (i:=2) rfl hw hr);clear hw hr)
  | ((with_reducible refine zah (i:=27) ?_);go_must (refine zax rfl 4 (.tmp 27) _ rfl g8 3 (Sta.cs ⟨pw,ba,ch,te,r⟩) (.bool true) rfl rfl (H.out.row (i:=3) rfl) (by decide:3 < 5) rfl rfl (by kernel_rfl) ?_);intro w12 hw hr;have H:=Lib.hid (show OwnD w2 D w12 [(g4,cnV lv rt),(g5,Sta.cs ⟨pw,ba,ch,te,r⟩),(g7,Sta.cs ⟨pw,ba,true,te,r⟩),(g8,Sta.cs ⟨pw,ba,ch,true,r⟩),(g9,Sta.cs ⟨pw,ba,ch,te,r⟩)] from H.out.set (i:=3) rfl hw hr);clear hw hr))
 refine region_inv (by kernel_rfl) _ (fun S c=>(S 8=false→OwnD w2 D c [(g4,cnV lv rt),(g5,Sta.cs ⟨pw,ba,ch,te,r⟩),(g7,Sta.cs ⟨pw,ba,true,te,r⟩),(g8,Sta.cs ⟨pw,ba,ch,true,r⟩),(g9,Sta.cs ⟨pw,ba,ch,te,r⟩)])∧(S 8=true→∃k:Nat,k < 16∧OwnD w2 D c [(g4,cnV lv rt),(g5,Sta.cs ⟨pw,ba,ch,te,r⟩),(g7,Sta.cs ⟨pw,ba,true,te,r⟩),(g8,Sta.cs ⟨pw,ba,ch,true,r⟩),(g9,Sta.cs ⟨pw,ba,ch,te,((r ||| 2 ^ k:Nat):Int)⟩)])) (fun i u _=>XG g9 D r i u) (by kernel_rfl) (fun c c' h hb=>⟨fun _=>(h.1 rfl).on hb,fun h=>by cases h⟩) ⟨fun _=>H.out,fun h=>by cases h⟩ ?_ ?_
 · refine ops_all (allI.cons ?_ (allI.cons ?_ (allI.cons ?_ (allI.cons ?_ (allI.cons ?_ (allI.cons ?_ (allI.cons ?_ (allI.cons ?_ (allI.cons ?_ allI.nil))))))))) <;> intro v S c a hI hX hSi hdep hS hC
   · exact o_fa _ (.tmp 9) 4 rfl (hS.old 9 rfl) (fa_st4 g9 _) ⟨_,rfl,rfl,⟨fun h=>hI.1 (or_false h),fun h=>hI.2 (zaV h (by decide))⟩,hX⟩
   · have h8 : S 8 = false := zbc hC hSi (i := 1) (j := 8) { on := 1, ground := Ground.phase } rfl (by simp) rfl rfl
     exact o_ld _ (.tmp 28) rfl ((hS.get 0 (zap hdep 0 rfl) rfl rfl).trans (hX 0 (zap hdep 0 rfl))) ((((hI.1 h8).row (i:=4) rfl).cell 4).trans rfl) ag_i ⟨_,rfl,rfl,⟨fun h=>hI.1 (or_false h),fun h=>hI.2 (zaV h (by decide))⟩,hX⟩
   · exact o_mv _ rfl (hS.old 3 rfl) ⟨_,rfl,rfl,⟨fun h=>hI.1 (or_false h),fun h=>hI.2 (zaV h (by decide))⟩,hX⟩
   · have h8 : S 8 = false := zbc hC hSi (i := 3) (j := 8) { on := 3, ground := Ground.phase } rfl (by simp) rfl rfl
     refine o_callV (.func 17) 17 #[.tmp 30,.const (.int .i64 16)] _ rfl rfl (ev2 ((hS.get 2 (zap hdep 2 rfl) rfl rfl).trans (hX 2 (zap hdep 2 rfl))) rfl) (by kernel_rfl) (HN.out 16 16 c rfl (by decide) (by decide) (hI.1 h8).ok) (fun e w9 h=>?_)
     obtain ⟨k,hk,rfl,hg,hd⟩:=h
     exact ⟨_,rfl,_,rfl,⟨k,hk,rfl⟩,⟨fun h=>(hI.1 h8).dice hg hd,fun h=>by have:=zaV h (by decide);rw [h8] at this;cases this⟩,hX⟩
   · obtain ⟨k, hk, e⟩ := hX 3 (zap hdep 3 rfl)
     exact o_cv _ _ (.tmp 31) rfl ((hS.get 3 (zap hdep 3 rfl) rfl rfl).trans e) (cv_iuN k hk _) ⟨_,rfl,⟨k,hk,rfl⟩,⟨fun h=>hI.1 (or_false h),fun h=>hI.2 (zaV h (by decide))⟩,hX⟩
   · obtain ⟨k, hk, e⟩ := hX 4 (zap hdep 4 rfl)
     exact o_bin .shl _ _ (.const (.int .i64 1)) (.tmp 32) rfl rfl ((hS.get 4 (zap hdep 4 rfl) rfl rfl).trans e) (shl_1 k hk _ _ _) ⟨_,rfl,⟨k,hk,rfl⟩,⟨fun h=>hI.1 (or_false h),fun h=>hI.2 (zaV h (by decide))⟩,hX⟩
   · obtain ⟨k, hk, e⟩ := hX 5 (zap hdep 5 rfl)
     exact o_bin .or _ _ (.tmp 29) (.tmp 33) rfl ((hS.get 1 (zap hdep 1 rfl) rfl rfl).trans (hX 1 (zap hdep 1 rfl))) ((hS.get 5 (zap hdep 5 rfl) rfl rfl).trans e) (or_i r (2 ^ k) hrb (show 2 ^ k < 2 ^ 16 from Nat.pow_lt_pow_right (by decide) hk) _ _ _) ⟨_,rfl,⟨k,hk,rfl⟩,⟨fun h=>hI.1 (or_false h),fun h=>hI.2 (zaV h (by decide))⟩,hX⟩
   · exact o_fa _ (.tmp 9) 4 rfl (hS.old 9 rfl) (fa_st4 g9 _) ⟨_,rfl,rfl,⟨fun h=>hI.1 (or_false h),fun h=>hI.2 (zaV h (by decide))⟩,hX⟩
   · obtain ⟨k, hk, e⟩ := hX 6 (zap hdep 6 rfl)
     have hO:=hI.1 hSi
     refine o_stA 3 (.tmp 35) (.tmp 34) rfl g9 4 (Sta.cs ⟨pw,ba,ch,te,r⟩) (.int .i64 ((r ||| 2 ^ k:Nat):Int)) ((hS.get 7 (zap hdep 7 rfl) rfl rfl).trans (hX 7 (zap hdep 7 rfl))) ((hS.get 6 (zap hdep 6 rfl) rfl rfl).trans e) (hO.row (i:=4) rfl) (by decide:4 < 5) rfl rfl size_i (fun c' hw hr=>?_)
     exact ⟨_,rfl,trivial,⟨fun h=>(or_at h).elim,fun _=>⟨k,hk,hO.set (i:=4) rfl hw hr⟩⟩,hX⟩
 intro v w13 S2 hall hI _
 obtain ⟨k,hk,hO⟩:=hI.2 (hall 8 (by decide))
 have H:=Lib.hid hO
 have hor:=or_bd hrb hk
 clear hI hO hall
 simp only [zaF,Act.put]
 simp
 obtain ⟨q,hq⟩ : ∃z,alwB lv rt ⟨pw,ba,ch,te,r⟩=z:=⟨_,rfl⟩
 rcases q with _ | _
 · rw [hq] at HRA ⊢
   go_wp2_with (first
    | ((with_reducible refine zac (d:=39) ?_);go_must (refine zak (by rfl) 54 (.tmp 4) rfl g4 rfl (cnV lv rt) _ (H.out.row (i:=0) rfl) Try.underlying54 rfl zat ?_))
    | ((with_reducible refine zac (d:=40) ?_);go_must (refine zak (by rfl) 29 (.tmp 5) rfl g5 rfl (Sta.cs ⟨pw,ba,ch,te,r⟩) _ (H.out.row (i:=1) rfl) Try.underlying29 rfl zao ?_))
    | (go_at_call 10;((with_reducible refine (awake17 _).mono ?_);rintro e w14 ⟨rfl,hb⟩);have H:=Lib.hid (H.out.on hb);clear hb)
    | (go_at_call 24;((with_reducible refine (HRA.out _).mono ?_);rintro e w15 ⟨rfl,hb⟩);have H:=Lib.hid (H.out.on hb);clear hb))
   go_ret
   exact ⟨rfl,HBR.out _ _ H0.out H.out.grown⟩
 · have h7 := alw_ch hq
   have h8:=alw_te hq
   have h9:=alw_rs (r:=r) (k:=k) rfl hq
   simp only at h7 h8 h9
   have HA7:=Lib.hid (fun u=>zaE lv rt ⟨pw,ba,true,te,r⟩ (by simp only;omega) (by simp only;omega) u)
   have HA8:=Lib.hid (fun u=>zaE lv rt ⟨pw,ba,ch,true,r⟩ (by simp only;omega) (by simp only;omega) u)
   have HA9:=Lib.hid (fun u=>zaE lv rt ⟨pw,ba,ch,te,((r ||| 2 ^ k:Nat):Int)⟩ (by simp only;omega) (by simp only;omega) u)
   rw [h7] at HA7
   rw [h8] at HA8
   rw [h9] at HA9
   rw [hq] at HRA ⊢
   clear h7 h8 h9
   go_wp2_with (first
    | ((with_reducible refine zac (d:=39) ?_);go_must (refine zak (by rfl) 54 (.tmp 4) rfl g4 rfl (cnV lv rt) _ (H.out.row (i:=0) rfl) Try.underlying54 rfl zat ?_))
    | ((with_reducible refine zac (d:=40) ?_);go_must (refine zak (by rfl) 29 (.tmp 5) rfl g5 rfl (Sta.cs ⟨pw,ba,ch,te,r⟩) _ (H.out.row (i:=1) rfl) Try.underlying29 rfl zao ?_))
    | ((with_reducible refine zac (d:=48) ?_);go_must (refine zak (by rfl) 54 (.tmp 4) rfl g4 rfl (cnV lv rt) _ (H.out.row (i:=0) rfl) Try.underlying54 rfl zat ?_))
    | ((with_reducible refine zac (d:=49) ?_);go_must (refine zak (by rfl) 29 (.tmp 7) rfl g7 rfl (Sta.cs ⟨pw,ba,true,te,r⟩) _ (H.out.row (i:=2) rfl) Try.underlying29 rfl zao ?_))
    | ((with_reducible refine zac (d:=52) ?_);go_must (refine zak (by rfl) 54 (.tmp 4) rfl g4 rfl (cnV lv rt) _ (H.out.row (i:=0) rfl) Try.underlying54 rfl zat ?_))
    | ((with_reducible refine zac (d:=53) ?_);go_must (refine zak (by rfl) 29 (.tmp 8) rfl g8 rfl (Sta.cs ⟨pw,ba,ch,true,r⟩) _ (H.out.row (i:=3) rfl) Try.underlying29 rfl zao ?_))
    | ((with_reducible refine zac (d:=57) ?_);go_must (refine zak (by rfl) 54 (.tmp 4) rfl g4 rfl (cnV lv rt) _ (H.out.row (i:=0) rfl) Try.underlying54 rfl zat ?_))
    | ((with_reducible refine zac (d:=58) ?_);go_must (refine zak (by rfl) 29 (.tmp 9) rfl g9 rfl (Sta.cs ⟨pw,ba,ch,te,((r ||| 2 ^ k:Nat):Int)⟩) _ (H.out.row (i:=4) rfl) Try.underlying29 rfl zao ?_))
    | (go_at_call 10;((with_reducible refine (awake17 _).mono ?_);rintro e w14 ⟨rfl,hb⟩);have H:=Lib.hid (H.out.on hb);clear hb)
    | (go_at_call 24;((with_reducible refine (HRA.out _).mono ?_);rintro e w15 ⟨rfl,hb⟩);have H:=Lib.hid (H.out.on hb);clear hb)
    | (go_at_call 23;((with_reducible refine (HA7.out _).mono ?_);rintro e w16 ⟨rfl,hb⟩);have H:=Lib.hid (H.out.on hb);clear hb)
    | (go_at_call 23;((with_reducible refine (HA8.out _).mono ?_);rintro e w17 ⟨rfl,hb⟩);have H:=Lib.hid (H.out.on hb);clear hb)
    | (go_at_call 23;((with_reducible refine (HA9.out _).mono ?_);rintro e w18 ⟨rfl,hb⟩);have H:=Lib.hid (H.out.on hb);clear hb))
   go_ret
   exact ⟨rfl,HBR.out _ _ H0.out H.out.grown⟩
end Go.Proofs.Ytkdlfbggddllhaa
