/-
  What is proved here: which conditions are met, by the program and by the reference.
-/
import Derived.Test.YtkdlfbggddllhaaPG23
import Derived.Deep.CutRange
set_option linter.unusedVariables false
set_option linter.unusedSimpArgs false
namespace Go.Proofs.Ytkdlfbggddllhaa
open Go.RowKit
set_option maxRecDepth 8000
section
variable {P:Program} {ops:Array Oper} {rest:List Oper} {o:Oper} {a:Act} {w:World} {Q:Exit→Act→World→Prop}
theorem zaA (hw : Region.wanted o (yielded ops a.tmps) = true) (b : BinOp) (T T2 : TypeId) (x y : Operand) (ho : o.op = .binOp b T x y T2) {v vx vy : Value} (hx : a.eval x = vx) (hy : a.eval y = vy) (hr : (do eqGuard b T x y vx vy; binOp b T vx vy).run P w = .ok v w) (hK : wpList P ops Q rest (a.put o.dst v) w) : wpList P ops Q (o :: rest) a w := by
 refine wpList_step fun K hK2=>?_
 rw [if_pos hw]
 exact o_bin b T T2 x y ho hx hy hr (hK2 _ _ hK)
theorem wpList_cvW (hw : Region.wanted o (yielded ops a.tmps) = true) (T1 T2 : TypeId) (x : Operand) (ho : o.op = .convert T1 T2 x) {v vx : Value} (hx : a.eval x = vx) (hr : (convert T1 T2 vx).run P w = .ok v w) (hK : wpList P ops Q rest (a.put o.dst v) w) : wpList P ops Q (o :: rest) a w := by
 refine wpList_step fun K hK2=>?_
 rw [if_pos hw]
 exact o_cv T1 T2 x ho hx hr (hK2 _ _ hK)
end
theorem and_one (v : Int) (lo : -9223372036854775808 ≤ v) (hi : v ≤ 9223372036854775807) : bits .and .i64 v 1 = v % 2 := by
 show IntKind.i64.wrap ((BitVec.ofInt 64 v &&& BitVec.ofInt 64 1).toNat:Int)=_
 have e1:(BitVec.ofInt 64 1).toNat=1:=by decide
 rw [BitVec.toNat_and,e1,Nat.and_one_is_mod,BitVec.toNat_ofInt,IntKind.wrap_i64]
 omega
theorem div_bd {z : Int} (lo : -9223372036854775808 ≤ z) (hi : z ≤ 9223372036854775807) (n : Nat) : -9223372036854775808 ≤ z / 2 ^ n ∧ z / 2 ^ n ≤ 9223372036854775807 := by
 have hp:(0:Int) < 2 ^ n:=Int.pow_pos (by decide)
 constructor
 · rw [Int.le_ediv_iff_mul_le hp]
   have h1:(1:Int)≤2 ^ n:=hp
   have:(9223372036854775808:Int)*1≤9223372036854775808*2 ^ n:=Int.mul_le_mul_of_nonneg_left h1 (by decide)
   omega
 · by_cases h : 0 ≤ z
   · exact Int.le_trans (Int.ediv_le_self _ h) hi
   · have := Int.ediv_neg_of_neg_of_pos (a := z) (b := 2 ^ n) (by omega) hp
     omega
theorem shr_i (z n : Int) (h0 : 0 ≤ n) (h15 : n ≤ 15) (x y : Operand) (w : World) : (do eqGuard .shr 3 x y (.int .i64 z) (.int .i64 n); binOp .shr 3 (.int .i64 z) (.int .i64 n)).run Try.prog w = .ok (.int .i64 (z / 2 ^ n.toNat)) w := by
 have hp:(0:Int) < 2 ^ n.toNat:=Int.pow_pos (by decide)
 have h:z.fdiv (2 ^ n.toNat)=z / 2 ^ n.toNat:=Int.fdiv_eq_ediv_of_nonneg z (by omega)
 have h1:¬n < 0:=by omega
 have h2:min n.toNat IntKind.i64.bits=n.toNat:=Nat.min_eq_left (by show n.toNat≤64;omega)
 simp [eqGuard,binOp,go_sem,Op.shift,h1,h2,h]
theorem shr_u (z n : Int) (h0 : 0 ≤ n) (h15 : n ≤ 15) (x y : Operand) (w : World) : (do eqGuard .shr 3 x y (.int .i64 z) (.int .u64 n); binOp .shr 3 (.int .i64 z) (.int .u64 n)).run Try.prog w = .ok (.int .i64 (z / 2 ^ n.toNat)) w := by
 have hp:(0:Int) < 2 ^ n.toNat:=Int.pow_pos (by decide)
 have h:z.fdiv (2 ^ n.toNat)=z / 2 ^ n.toNat:=Int.fdiv_eq_ediv_of_nonneg z (by omega)
 have h1:¬n < 0:=by omega
 have h2:min n.toNat IntKind.i64.bits=n.toNat:=Nat.min_eq_left (by show n.toNat≤64;omega)
 simp [eqGuard,binOp,go_sem,Op.shift,h1,h2,h]
theorem and_i (v : Int) (lo : -9223372036854775808 ≤ v) (hi : v ≤ 9223372036854775807) (x y : Operand) (w : World) : (do eqGuard .and 3 x y (.int .i64 v) (.int .i64 1); binOp .and 3 (.int .i64 v) (.int .i64 1)).run Try.prog w = .ok (.int .i64 (v % 2)) w := by
 rw [←and_one v lo hi]
 simp [eqGuard,binOp,go_sem]
theorem cv_iu (n : Int) (h0 : 0 ≤ n) (h15 : n ≤ 15) (w : World) : (convert 3 57 (.int .i64 n)).run Try.prog w = .ok (.int .u64 n) w := by
 have e:IntKind.u64.wrap n=n:=by unfold IntKind.wrap;simp [IntKind.signed,IntKind.bits];omega
 have:(convert 3 57 (.int .i64 n)).run Try.prog w=.ok (.int .u64 (IntKind.u64.wrap n)) w:=by kernel_rfl
 rw [this,e]
theorem alw_cases (lv rt : Int) (s : Sta) : (lv = 0 ∧ alwB lv rt s = true) ∨ (lv = 1 ∧ alwB lv rt s = pwdB s.pw) ∨ (lv = 2 ∧ alwB lv rt s = (pwdB s.pw && s.ch)) ∨ (lv = 3 ∧ alwB lv rt s = ((pwdB s.pw && s.ch) && (s.te && (rgB rt && bitB s.rs rt)))) ∨ ((lv == 0) = false ∧ (lv == 1) = false ∧ (lv == 2) = false ∧ (lv == 3) = false ∧ alwB lv rt s = false) := by
 unfold alwB
 by_cases h0:lv=0
 · left;exact ⟨h0,by rw [if_pos h0]⟩
 by_cases h1:lv=1
 · right;left;exact ⟨h1,by rw [if_neg h0,if_pos h1]⟩
 by_cases h2:lv=2
 · right;right;left;exact ⟨h2,by rw [if_neg h0,if_neg h1,if_pos h2]⟩
 by_cases h3:lv=3
 · right;right;right;left;exact ⟨h3,by rw [if_neg h0,if_neg h1,if_neg h2,if_pos h3]⟩
 · right; right; right; right
   exact ⟨by simpa using h0,by simpa using h1,by simpa using h2,by simpa using h3,by rw [if_neg h0,if_neg h1,if_neg h2,if_neg h3]⟩
theorem pwd_cases (n : Int) : ((n == 1) = true ∧ pwdB n = true) ∨ ((n == 1) = false ∧ (n == 2) = true ∧ pwdB n = true) ∨ ((n == 1) = false ∧ (n == 2) = false ∧ (n == 3) = true ∧ pwdB n = true) ∨ ((n == 1) = false ∧ (n == 2) = false ∧ (n == 3) = false ∧ pwdB n = false) := by
 unfold pwdB
 by_cases h1:n=1
 · simp [h1]
 by_cases h2:n=2
 · simp [h2]
 by_cases h3:n=3
 · simp [h3]
 · simp [h1,h2,h3]
theorem zaP {n : Int} (h : rgB n = true) : 0 ≤ n ∧ n ≤ 15 := by
 unfold rgB at h
 simpa using h
set_option maxHeartbeats 12800000 in
theorem zaE (lv rt : Int) (s : Sta) (lo : -9223372036854775808 ≤ s.rs) (hi : s.rs ≤ 9223372036854775807) (w : World) :
 Calls Try.prog 23 #[.agg (cnV lv rt).toArray,.agg s.cs.toArray] w fun e w'=>e=.returned (.bool (alwB lv rt s))∧Below w.heap.size w w':=by
 have hcs:=alw_cases lv rt s
 have hpw:=pwd_cases s.pw
 have HR:=Lib.hid (fun u=>p_isright rt u)
 have hrg := fun (h : rgB rt = true) => (show (∀ x y w, (do eqGuard .shr 3 x y (.int .i64 s.rs) (.int .i64 rt); binOp .shr 3 (.int .i64 s.rs) (.int .i64 rt)).run Try.prog w = .ok (.int .i64 (s.rs / 2 ^ rt.toNat)) w) ∧ (∀ x y w, (do eqGuard .and 3 x y (.int .i64 (s.rs / 2 ^ rt.toNat)) (.int .i64 1); binOp .and 3 (.int .i64 (s.rs / 2 ^ rt.toNat)) (.int .i64 1)).run Try.prog w = .ok (.int .i64 (s.rs / 2 ^ rt.toNat % 2)) w) ∧ (s.rs / 2 ^ rt.toNat % 2 == 1) = bitB s.rs rt from
  ⟨fun x y w=>shr_i s.rs rt (zaP h).1 (zaP h).2 x y w,fun x y w=>and_i _ (div_bd lo hi _).1 (div_bd lo hi _).2 x y w,by unfold bitB;by_cases e:s.rs / 2 ^ rt.toNat % 2=1 <;> simp [e]⟩)
 obtain ⟨d,hd⟩ : ∃z,s.rs / 2 ^ rt.toNat=z:=⟨_,rfl⟩
 obtain ⟨d2,hd2⟩ : ∃z,d % 2=z:=⟨_,rfl⟩
 rw [hd,hd2] at hrg
 obtain ⟨R,hR⟩ : ∃z,alwB lv rt s=z:=⟨_,rfl⟩
 obtain ⟨q,hq⟩ : ∃z,pwdB s.pw=z:=⟨_,rfl⟩
 obtain ⟨rg,hrgv⟩ : ∃z,rgB rt=z:=⟨_,rfl⟩
 obtain ⟨bt,hbt⟩ : ∃z,bitB s.rs rt=z:=⟨_,rfl⟩
 rw [hR,hq,hrgv,hbt] at hcs
 rw [hq] at hpw
 rw [hrgv] at HR hrg
 rw [hbt] at hrg
 rw [hR]
 obtain ⟨us,hus⟩ : ∃us,s.cs=us:=⟨_,rfl⟩
 have HU:=Lib.hid (show us[0]? = some (.int .i64 s.pw)∧us[2]? = some (.bool s.ch)∧us[3]? = some (.bool s.te)∧us[4]? = some (.int .i64 s.rs) from by rw [←hus];exact ⟨rfl,rfl,rfl,rfl⟩)
 rw [hus]
 obtain ⟨pw,ba,ch,te,rs⟩:=s
 simp only at HU hpw hcs hrg
 have HG:=Lib.hid hrg
 have HCS:=Lib.hid hcs
 have HPW:=Lib.hid hpw
 have HB:=Lib.hid (Below.refl w.heap.size w)
 clear hus hR hq hrgv hbt hrg hd hd2 lo hi hcs hpw
 go_enter Try.func23,Try.ntmps23
 go_upto_region 1 with (first
  | ((with_reducible refine zag (d:=2) ?_);refine zaa (op:=⟨some 2,_,_,_,_,_⟩) rfl 54 _ rfl (cnV lv rt) rfl ?_;intro g2 w1 hf hr;have H1:=Lib.hid (show Below w.heap.size w w1∧RowV w1 g2 (cnV lv rt) from ⟨hf.bl HB.out,hr⟩);clear hf hr)
  | ((with_reducible refine zag (d:=3) ?_);refine zaa (op:=⟨some 3,_,_,_,_,_⟩) rfl 29 _ rfl us rfl ?_;intro g3 w2 hf hr;have H2:=Lib.hid (show Below w.heap.size w w2∧RowV w2 g2 (cnV lv rt)∧RowV w2 g3 us from ⟨hf.bl H1.out.1,H1.out.2.fresh hf,hr⟩);have a0:w2.cell? ⟨g2,0,none⟩=some (.int .i64 lv):=H2.out.2.1.cell 0;have a1:w2.cell? ⟨g2,1,none⟩=some (.int .i64 rt):=H2.out.2.1.cell 1;have c0:=(hr.cell 0).trans HU.out.1;have c2:=(hr.cell 2).trans HU.out.2.1;have c3:=(hr.cell 3).trans HU.out.2.2.1;have c4:=(hr.cell 4).trans HU.out.2.2.2;clear hf hr))
 go_cut [5] from 8 to 21 (fun v5 wx=>v5=.bool q∧Hid (w2=wx))
 case first =>
  have hpw:=HPW.out
  rcases hpw with ⟨h1,rfl⟩ | ⟨h1,h2,rfl⟩ | ⟨h1,h2,h3,rfl⟩ | ⟨h1,h2,h3,rfl⟩
  all_goals
   go_wp2
   go_meet
   exact ⟨rfl,Lib.hid rfl⟩
 case rest =>
 obtain ⟨rfl,hwc⟩:=hcut
 have hwd:=hwc.out
 clear hwc
 subst hwd
 have hcs:=HCS.out
 rcases hcs with ⟨rfl,rfl⟩ | ⟨rfl,rfl⟩ | ⟨rfl,rfl⟩ | ⟨rfl,rfl⟩ | ⟨h0,h1,h2,h3,rfl⟩
 iterate 3
  · clear HCS HPW
    first
     | (rcases q with _ | _ <;> rcases ch with _ | _ <;> rcases te with _ | _)
     | (rcases R with _ | _ <;> rcases ch with _ | _ <;> rcases te with _ | _)
    all_goals
     go_wp2
     go_ret
     exact ⟨rfl,H2.out.1⟩
 · clear HCS HPW
   rcases q with _ | _ <;> rcases ch with _ | _ <;> rcases te with _ | _ <;> rcases rg with _ | _
   all_goals first
    | (have HG2 := Lib.hid (HG.out rfl)
       have hbit:=HG2.out.2.2
       rcases bt with _ | _
       all_goals
        go_wp2_with (first
         | (go_at_call 43;((with_reducible refine (HR.out _).mono ?_);rintro e w' ⟨rfl,rfl⟩))
         | ((with_reducible refine zal (d:=54) ?_);go_must (refine zaA (by rfl) .shr 3 _ (.tmp 51) (.tmp 53) rfl rfl rfl (HG2.out.1 _ _ _) ?_))
         | ((with_reducible refine zal (d:=55) ?_);go_must (refine zaA (by rfl) .and 3 _ (.tmp 54) _ rfl rfl rfl (HG2.out.2.1 _ _ _) ?_)))
        go_ret
        exact ⟨rfl,H2.out.1⟩)
    | (go_wp2_with (first
     | (go_at_call 43;((with_reducible refine (HR.out _).mono ?_);rintro e w' ⟨rfl,rfl⟩)))
       go_ret
       exact ⟨rfl,H2.out.1⟩)
 · clear HCS HPW
   rcases q with _ | _ <;> rcases ch with _ | _ <;> rcases te with _ | _
   all_goals
    go_wp2
    go_ret
    exact ⟨rfl,H2.out.1⟩
set_option maxHeartbeats 12800000 in
theorem r_allowed (lv rt : Int) (s : Sta) (lo : -9223372036854775808 ≤ s.rs) (hi : s.rs ≤ 9223372036854775807) (w : World) :
 Calls Try.prog 24 #[.agg (cnV lv rt).toArray,.agg s.cs.toArray] w fun e w'=>e=.returned (.bool (alwB lv rt s))∧Below w.heap.size w w':=by
 have hcs:=alw_cases lv rt s
 have hpw:=pwd_cases s.pw
 have hrc:=rg_cases rt
 have hrg := fun (h : rgB rt = true) => (show (∀ x y w, (do eqGuard .shr 3 x y (.int .i64 s.rs) (.int .u64 rt); binOp .shr 3 (.int .i64 s.rs) (.int .u64 rt)).run Try.prog w = .ok (.int .i64 (s.rs / 2 ^ rt.toNat)) w) ∧ (∀ x y w, (do eqGuard .and 3 x y (.int .i64 (s.rs / 2 ^ rt.toNat)) (.int .i64 1); binOp .and 3 (.int .i64 (s.rs / 2 ^ rt.toNat)) (.int .i64 1)).run Try.prog w = .ok (.int .i64 (s.rs / 2 ^ rt.toNat % 2)) w) ∧ (s.rs / 2 ^ rt.toNat % 2 == 1) = bitB s.rs rt ∧ ∀ w, (convert 3 57 (.int .i64 rt)).run Try.prog w = .ok (.int .u64 rt) w from
  ⟨fun x y w=>shr_u s.rs rt (zaP h).1 (zaP h).2 x y w,fun x y w=>and_i _ (div_bd lo hi _).1 (div_bd lo hi _).2 x y w,by unfold bitB;by_cases e:s.rs / 2 ^ rt.toNat % 2=1 <;> simp [e],fun w=>cv_iu rt (zaP h).1 (zaP h).2 w⟩)
 obtain ⟨d,hd⟩ : ∃z,s.rs / 2 ^ rt.toNat=z:=⟨_,rfl⟩
 obtain ⟨d2,hd2⟩ : ∃z,d % 2=z:=⟨_,rfl⟩
 rw [hd,hd2] at hrg
 obtain ⟨R,hR⟩ : ∃z,alwB lv rt s=z:=⟨_,rfl⟩
 obtain ⟨q,hq⟩ : ∃z,pwdB s.pw=z:=⟨_,rfl⟩
 obtain ⟨rg,hrgv⟩ : ∃z,rgB rt=z:=⟨_,rfl⟩
 obtain ⟨bt,hbt⟩ : ∃z,bitB s.rs rt=z:=⟨_,rfl⟩
 rw [hR,hq,hrgv,hbt] at hcs
 rw [hq] at hpw
 rw [hrgv] at hrg hrc
 rw [hbt] at hrg
 rw [hR]
 obtain ⟨us,hus⟩ : ∃us,s.cs=us:=⟨_,rfl⟩
 have HU:=Lib.hid (show us[0]? = some (.int .i64 s.pw)∧us[2]? = some (.bool s.ch)∧us[3]? = some (.bool s.te)∧us[4]? = some (.int .i64 s.rs) from by rw [←hus];exact ⟨rfl,rfl,rfl,rfl⟩)
 rw [hus]
 obtain ⟨pw,ba,ch,te,rs⟩:=s
 simp only at HU hpw hcs hrg
 have HG:=Lib.hid hrg
 have HCS:=Lib.hid hcs
 have HPW:=Lib.hid hpw
 have HRC:=Lib.hid hrc
 have HB:=Lib.hid (Below.refl w.heap.size w)
 clear hus hR hq hrgv hbt hrg hd hd2 lo hi hcs hpw hrc
 go_enter Try.func24,Try.ntmps24
 go_upto_region 1 with (first
  | ((with_reducible refine zag (d:=2) ?_);refine zaa (op:=⟨some 2,_,_,_,_,_⟩) rfl 54 _ rfl (cnV lv rt) rfl ?_;intro g2 w1 hf hr;have H1:=Lib.hid (show Below w.heap.size w w1∧RowV w1 g2 (cnV lv rt) from ⟨hf.bl HB.out,hr⟩);clear hf hr)
  | ((with_reducible refine zag (d:=3) ?_);refine zaa (op:=⟨some 3,_,_,_,_,_⟩) rfl 29 _ rfl us rfl ?_;intro g3 w2 hf hr;have H2:=Lib.hid (show Below w.heap.size w w2∧RowV w2 g2 (cnV lv rt)∧RowV w2 g3 us from ⟨hf.bl H1.out.1,H1.out.2.fresh hf,hr⟩);have a0:w2.cell? ⟨g2,0,none⟩=some (.int .i64 lv):=H2.out.2.1.cell 0;have a1:w2.cell? ⟨g2,1,none⟩=some (.int .i64 rt):=H2.out.2.1.cell 1;have c0:=(hr.cell 0).trans HU.out.1;have c2:=(hr.cell 2).trans HU.out.2.1;have c3:=(hr.cell 3).trans HU.out.2.2.1;have c4:=(hr.cell 4).trans HU.out.2.2.2;clear hf hr))
 go_cut [5] from 6 to 19 (fun v5 wx=>v5=.bool q∧Hid (w2=wx))
 case first =>
  have hpw:=HPW.out
  rcases hpw with ⟨h1,rfl⟩ | ⟨h1,h2,rfl⟩ | ⟨h1,h2,h3,rfl⟩ | ⟨h1,h2,h3,rfl⟩
  all_goals
   go_wp2
   go_meet
   exact ⟨rfl,Lib.hid rfl⟩
 case rest =>
 obtain ⟨rfl,hwc⟩:=hcut
 have hwd:=hwc.out
 clear hwc
 subst hwd
 have hcs:=HCS.out
 rcases hcs with ⟨rfl,rfl⟩ | ⟨rfl,rfl⟩ | ⟨rfl,rfl⟩ | ⟨rfl,rfl⟩ | ⟨h0,h1,h2,h3,rfl⟩
 iterate 2
  · clear HCS HPW HRC
    first
     | (rcases q with _ | _)
     | (rcases R with _ | _)
    all_goals
     go_wp2
     go_ret
     exact ⟨rfl,H2.out.1⟩
 · clear HCS HPW HRC
   rcases q with _ | _ <;> rcases ch with _ | _
   all_goals
    go_wp2
    go_ret
    exact ⟨rfl,H2.out.1⟩
 · clear HCS HPW
   have hrc:=HRC.out
   rcases hrc with ⟨h1,rfl⟩ | ⟨h1,h2,rfl⟩ | ⟨h1,h2,rfl⟩
   iterate 2
    · rcases q with _ | _ <;> rcases ch with _ | _ <;> rcases te with _ | _
      all_goals
       go_wp2
       go_ret
       exact ⟨rfl,H2.out.1⟩
   · have HG2 := Lib.hid (HG.out rfl)
     have hbit:=HG2.out.2.2.1
     rcases q with _ | _ <;> rcases ch with _ | _ <;> rcases te with _ | _ <;> rcases bt with _ | _
     all_goals
      go_wp2_with (first
       | ((with_reducible refine zal (d:=59) ?_);go_must (refine wpList_cvW (by rfl) 3 57 (.tmp 58) rfl rfl (HG2.out.2.2.2 _) ?_))
       | ((with_reducible refine zal (d:=60) ?_);go_must (refine zaA (by rfl) .shr 3 _ (.tmp 56) (.tmp 59) rfl rfl rfl (HG2.out.1 _ _ _) ?_))
       | ((with_reducible refine zal (d:=61) ?_);go_must (refine zaA (by rfl) .and 3 _ (.tmp 60) _ rfl rfl rfl (HG2.out.2.1 _ _ _) ?_)))
      go_ret
      exact ⟨rfl,H2.out.1⟩
 · clear HCS HPW HRC
   go_wp2
   go_ret
   exact ⟨rfl,H2.out.1⟩
end Go.Proofs.Ytkdlfbggddllhaa
