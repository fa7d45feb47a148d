/-
  What is proved here: what the makers' OddZone gives: a zone that a machine bears, whatever it is.
-/
import Derived.Test.YtdlcoilpkelbaaaGreatDoorY19
import Derived.Test.YtdlcoilpkelbaaaGreatDoorY16
import Derived.Test.YtdlcoilpkelbaaaGreatDoorOs
import Derived.Deep.CutBlock
namespace Go.Proofs.YtdlcoilpkelbaaaGreatDoor
open Go.RowKit Go.Maps Go.Deep
set_option linter.unusedVariables false

def oddL1 : List (List UInt8) := [[], [112], [80, 80, 80], [80, 60], [49]]
def oddL2 : List (List UInt8) := [[], [85, 84, 79, 80], [85, 49], [60, 60, 60]]
def oddL3 : List (List UInt8) := [[], [32, 65], [65, 32, 32, 66], [97], [65, 60, 66], [65, 32]]
def oddL5 : List (List UInt8) := [[], [65, 60, 66], [97], [65, 66, 67, 68, 69, 70, 71, 72, 73, 74, 75, 76, 77, 78, 79, 80, 81, 82, 83, 84, 85]]
def oddL6 : List (List UInt8) := [[], [56, 53, 49, 51, 48, 49], [56, 53, 48, 49, 51, 50], [56, 60, 48, 49, 48, 49], [60, 60, 60, 60, 60], [56, 53, 57, 57, 48, 48], [56, 53, 48, 49, 48, 48], [56, 53, 60, 60, 60, 60]]
def oddL7 : List (List UInt8) := [[], [88], [77, 70], [109]]
def oddL8 : List (List UInt8) := [[], [50, 53, 48, 50, 50, 57], [50, 56, 48, 50, 50, 57], [50, 53, 49, 51, 48, 49], [50, 53, 60, 60, 60, 60], [48, 48, 48, 48, 48, 48]]
def oddL9 : List (List UInt8) := [[60, 65], [65, 60], [65, 60, 66], [97], [65, 66, 67, 68, 69, 70, 71, 72, 73, 74, 75, 76, 77, 78, 79, 80]]
def oddL10 : List (List UInt8) := [[65], [60], [65, 66, 67, 68, 69, 70, 71, 72, 73, 74, 75, 76], [65, 60, 49]]
def oddL11 : List (List UInt8) := [[], [85, 84, 79, 80], [117]]
theorem odd_len : ∀ l ∈ [oddL1, oddL2, oddL3, oddL5, oddL6, oddL7, oddL8, oddL9, oddL10, oddL11], ∀ x ∈ l, x.length ≤ 40 := by decide
theorem odd_at {l : List (List UInt8)} (h : l ∈ [oddL1, oddL2, oddL3, oddL5, oddL6, oddL7, oddL8, oddL9, oddL10, oddL11]) {j : Nat} (hj : j < l.length) : (S (l.getD j [])).size ≤ 40 := by
  rw [S_size]
  refine odd_len l h _ ?_
  rw [List.getD_eq_getElem?_getD, List.getElem?_eq_getElem hj]
  exact List.getElem_mem _
theorem Mk2.start2 {w w1 w2 : World} {D g3 g4 : Nat} {vs : List Value} (h : DiceOk w D) (hf : Fresh w w1 g3) (hr : RowV w1 g3 vs) (hf4 : Fresh w1 w2 g4) (hr4 : RowV w2 g4 zon0) : Mk2 w D w2 g4 g3 vs := by
  have hl := h.lt
  have e3 : g3 = w.heap.size := hf.1
  have hs := hr.lt
  have e4 : g4 = w1.heap.size := hf4.1
  refine ⟨grown_below (below_on hf.bw hf4.bw), (h.below hf.bw).below hf4.bw, hl, by omega, by omega, by omega, hr4, hr.fresh hf4⟩
theorem bears_set {z : Zn} (h : Bears z) (x : List UInt8) (hx : (S x).size ≤ 140737488355328) :
    Bears { z with kd := x } ∧ Bears { z with st := x } ∧ Bears { z with su := x } ∧ Bears { z with nu := x } ∧ Bears { z with na := x } ∧ Bears { z with bi := x } ∧ Bears { z with sx := x } ∧ Bears { z with ex := x } ∧ Bears { z with op := x } ∧ Bears { z with se := x } := by
  obtain ⟨a1, a2, a3, a4, a5, a6, a7, a8, a9, a10, a11⟩ := h
  exact ⟨⟨hx, a2, a3, a4, a5, a6, a7, a8, a9, a10, a11⟩, ⟨a1, hx, a3, a4, a5, a6, a7, a8, a9, a10, a11⟩, ⟨a1, a2, hx, a4, a5, a6, a7, a8, a9, a10, a11⟩, ⟨a1, a2, a3, a4, hx, a6, a7, a8, a9, a10, a11⟩, ⟨a1, a2, a3, a4, a5, hx, a7, a8, a9, a10, a11⟩, ⟨a1, a2, a3, a4, a5, a6, hx, a8, a9, a10, a11⟩, ⟨a1, a2, a3, a4, a5, a6, a7, hx, a9, a10, a11⟩, ⟨a1, a2, a3, a4, a5, a6, a7, a8, hx, a10, a11⟩, ⟨a1, a2, a3, a4, a5, a6, a7, a8, a9, hx, a11⟩, ⟨a1, a2, a3, a4, a5, a6, a7, a8, a9, a10, hx⟩⟩
theorem bears_fm {z : Zn} (h : Bears z) (f : Int) : Bears { z with fm := f } := ⟨h.kd, h.st, h.su, h.gi, h.nu, h.na, h.bi, h.sx, h.ex, h.op, h.se⟩
def OddIs (w : World) (D : Nat) (e : Ending) (w' : World) : Prop := ∃ z : Zn, e = .returned (.agg (zV z).toArray) ∧ Bears z ∧ w.grownBy w' (some D) ∧ DiceOk w' D
theorem o_call2x {P : Program} {a : Act} {w : World} {K : Act → World → Prop} {Q : Exit → Act → World → Prop} {o : Oper} (f : FuncId) (x y : Operand) (tys : Array TypeId) (ho : o.op = .call { callee := .value (.func f), args := #[x, y], argTypes := tys }) {v1 v2 : Value} (hx : a.eval x = v1) (hy : a.eval y = v2) (hr : (callFunc f #[v1, v2]).run P w = .ok (.enter f #[v1, v2]) w)
    {Post : Ending → World → Prop} (h : Calls P f #[v1, v2] w Post) (hK : ∀ e w', Post e w' → ∃ v, e = .returned v ∧ K (a.put o.dst v) w') : o.wp P a w K Q := by
  have he : a.eval (.func f) = Value.func (.func f) #[] #[] := rfl
  have h1 : (execOp a.eval o).run P w = .ok (.enter f #[v1, v2]) w := by
    simp [execOp, ho, resolve, invoke, hx, hy, he, hr, Deferred.ofValue]
  unfold Oper.wp
  rw [h1, Oper.upon_enter]
  refine h.mono ?_
  intro e w' hp
  obtain ⟨v, rfl, hk⟩ := hK e w' hp
  exact hk
theorem run_next (vs : Array Value) (w : World) : (callFunc 68 vs).run Tryz.prog w = .ok (.enter 68 vs) w :=
  run_enter (c := _) Tryz.func68 (by decide) rfl vs w
def abcB : ByteArray := ⟨#[65, 66, 67, 68, 69, 70, 71, 72, 73, 74, 75, 76]⟩
def abcL : List UInt8 := [65, 66, 67, 68, 69, 70, 71, 72, 73, 74, 75, 76]
set_option maxHeartbeats 6400000 in
set_option maxRecDepth 40000 in
theorem dice_oddz (D : Nat) (z : Zn) (us : List Value) (hus : zV z = us) (hb : Bears z) (hnu : z.nu.length ≤ 1000) (w : World) (h : DiceOk w D) : Calls Tryz.prog 24 #[.pointer (some ⟨D, 0, none⟩), .agg us.toArray] w (OddIs w D) := by
  have HD := Lib.hid h
  clear h
  go_enter Tryz.func24, Tryz.ntmps24
  go_wp2_with (first
    | ((with_reducible refine at_box_ (d := 3) ?_); refine wpList_box_v (op := ⟨some 3, _, _, _, _, _⟩) rfl 23 (.tmp 1) rfl us rfl ?_; intro g3 w1 hf3 hr3)
    | ((with_reducible refine at_alloc_ (d := 4) ?_); refine wpList_alloc_v (op := ⟨some 4, _, _, _, _, _⟩) rfl 23 rfl zon0 info_z ?_; intro g4 w2 hf4 hr4; have HK := Lib.hid (Mk2.start2 HD.out hf3 hr3 hf4 hr4); clear hf3 hr3 hf4 hr4))
  refine (dice_next_l D 12 12 _ rfl (by decide) (by decide) HK.out.dk).mono ?_
  rintro e w3 ⟨r, hr, rfl, hg, hd⟩
  have HK2 := Lib.hid (HK.out.dice hg hd)
  clear HK hg hd HD
  have HK : Hid (Mk2 w D w3 g4 g3 (zV z)) := Lib.hid (by rw [hus]; exact HK2.out)
  clear HK2
  have HBZ := Lib.hid hb
  clear hb hus
  go_upto_block 0 with fail
  go_cut [] from 7 to 100 (fun wx => ∃ z' : Zn, Hid (Bears z') ∧ Hid (Mk2 w D wx g4 g3 (zV z')))
  case first =>
    have hcs : r = 0 ∨ r = 1 ∨ r = 2 ∨ r = 3 ∨ r = 4 ∨ r = 5 ∨ r = 6 ∨ r = 7 ∨ r = 8 ∨ r = 9 ∨ r = 10 ∨ r = 11 := by omega
    rcases hcs with rfl | rfl | rfl | rfl | rfl | rfl | rfl | rfl | rfl | rfl | rfl | rfl
    · go_wp2_with fail
      refine (dice_next_l D 6 6 _ rfl (by decide) (by decide) HK.out.dk).mono ?_
      rintro e wp ⟨j, hj, rfl, hg, hd⟩
      have HK2 := Lib.hid (HK.out.dice hg hd)
      clear HK hg hd
      have HK := HK2
      clear HK2
      go_wp2_with ((with_reducible refine at_store_ (i := 18) ?_); refine wpList_store_at rfl 3 (.tmp 18) (.tmp 17) rfl g3 0 _ (.int .i64 ((j : Int) - 1)) rfl rfl HK.out.r3 (by simp [zV]) rfl rfl size_i ?_; intro ws hw hr; have HK2 : Hid (Mk2 w D ws g4 g3 (zV ({ z with fm := (j : Int) - 1 } : Zn))) := Lib.hid (HK.out.put hw hr); clear hw hr HK; have HK := HK2; clear HK2)
      go_meet
      exact ⟨_, Lib.hid (bears_fm HBZ.out _), HK⟩
    · go_wp2_with fail
      refine (dice_next_l D 5 5 _ rfl (by decide) (by decide) ((HK.out.alloc _).dk)).mono ?_
      rintro e wp ⟨j, hj, rfl, hg, hd⟩
      obtain ⟨hk, c⟩ := HK.out.pick (l := oddL1) hg hd hj
      have hx4 := odd_at (l := oddL1) (by simp) (j := j) hj
      obtain ⟨x, hx⟩ : ∃ x, oddL1.getD j [] = x := ⟨_, rfl⟩
      rw [hx] at c hx4
      clear HK
      have HK := Lib.hid hk
      have jj : (j : Int) < 5 := by omega
      clear hk hg hd hx
      go_wp2_with ((with_reducible refine at_store_ (i := 26) ?_); refine wpList_store_at rfl 9 (.tmp 26) (.tmp 25) rfl g3 1 _ (.string (S x)) rfl rfl HK.out.r3 (by simp [zV]) rfl rfl size_st ?_; intro ws hw hr; have HK2 : Hid (Mk2 w D ws g4 g3 (zV ({ z with kd := x } : Zn))) := Lib.hid (HK.out.put hw hr); clear hw hr HK; have HK := HK2; clear HK2)
      go_meet
      exact ⟨_, Lib.hid ((bears_set HBZ.out x (by omega)).1), HK⟩
    · go_wp2_with fail
      refine (dice_next_l D 4 4 _ rfl (by decide) (by decide) ((HK.out.alloc _).dk)).mono ?_
      rintro e wp ⟨j, hj, rfl, hg, hd⟩
      obtain ⟨hk, c⟩ := HK.out.pick (l := oddL2) hg hd hj
      have hx4 := odd_at (l := oddL2) (by simp) (j := j) hj
      obtain ⟨x, hx⟩ : ∃ x, oddL2.getD j [] = x := ⟨_, rfl⟩
      rw [hx] at c hx4
      clear HK
      have HK := Lib.hid hk
      have jj : (j : Int) < 4 := by omega
      clear hk hg hd hx
      go_wp2_with (first
        | ((with_reducible refine at_store_ (i := 34) ?_); refine wpList_store_at rfl 9 (.tmp 34) (.tmp 33) rfl g3 2 _ (.string (S x)) rfl rfl HK.out.r3 (by simp [zV]) rfl rfl size_st ?_; intro ws hw hr; have HK2 : Hid (Mk2 w D ws g4 g3 (zV ({ z with st := x } : Zn))) := Lib.hid (HK.out.put hw hr); clear hw hr HK; have HK := HK2; clear HK2)
        | ((with_reducible refine at_store_ (i := 35) ?_); refine wpList_store_at rfl 9 (.tmp 35) (.const (.string ⟨#[85, 84, 79]⟩)) rfl g3 6 _ (.string (S [85, 84, 79])) rfl rfl HK.out.r3 (by simp [zV]) rfl rfl size_st ?_; intro wt hw hr; have HK2 : Hid (Mk2 w D wt g4 g3 (zV ({ z with st := x, na := [85, 84, 79] } : Zn))) := Lib.hid (HK.out.put hw hr); clear hw hr HK; have HK := HK2; clear HK2))
      go_meet
      exact ⟨_, Lib.hid ((bears_set ((bears_set HBZ.out x (by omega)).2.1) [85, 84, 79] (by decide)).2.2.2.2.1), HK⟩
    · go_wp2_with fail
      refine (dice_next_l D 6 6 _ rfl (by decide) (by decide) ((HK.out.alloc _).dk)).mono ?_
      rintro e wp ⟨j, hj, rfl, hg, hd⟩
      obtain ⟨hk, c⟩ := HK.out.pick (l := oddL3) hg hd hj
      have hx4 := odd_at (l := oddL3) (by simp) (j := j) hj
      obtain ⟨x, hx⟩ : ∃ x, oddL3.getD j [] = x := ⟨_, rfl⟩
      rw [hx] at c hx4
      clear HK
      have HK := Lib.hid hk
      have jj : (j : Int) < 6 := by omega
      clear hk hg hd hx
      go_wp2_with ((with_reducible refine at_store_ (i := 43) ?_); refine wpList_store_at rfl 9 (.tmp 43) (.tmp 42) rfl g3 3 _ (.string (S x)) rfl rfl HK.out.r3 (by simp [zV]) rfl rfl size_st ?_; intro ws hw hr; have HK2 : Hid (Mk2 w D ws g4 g3 (zV ({ z with su := x } : Zn))) := Lib.hid (HK.out.put hw hr); clear hw hr HK; have HK := HK2; clear HK2)
      go_meet
      exact ⟨_, Lib.hid ((bears_set HBZ.out x (by omega)).2.2.1), HK⟩
    · go_wp2_with fail
      refine region_setX (by kernel_rfl) _ (fun (b : Nat) i => ([.pointer (some ⟨g3, 5, none⟩), .string (S z.nu), .pointer (some ⟨D, 0, none⟩), .int .i64 (b : Int), .string (abcB.extract 0 b), .string (S z.nu ++ abcB.extract 0 b), .pointer (some ⟨g3, 5, none⟩), undef] : List Value).getD i undef) (fun b Sx cur => b ≤ 12 ∧ (if Sx 7 = true then Mk2 w D cur g4 g3 (zV { z with nu := z.nu ++ abcL.take b }) else Mk2 w D cur g4 g3 (zV z))) (by kernel_rfl) 0 (by simp only [Bool.false_eq_true, ite_false]; exact ⟨by omega, HK.out.bl (below_drewN _ _ 1)⟩) ?_ ?_
      · refine ops_all (allI.cons ?_ (allI.cons ?_ (allI.cons ?_ (allI.cons ?_ (allI.cons ?_ (allI.cons ?_ (allI.cons ?_ (allI.cons ?_ allI.nil)))))))) <;> intro b Sx cur a hW hSi hdep hS hC
        · exact o_fa _ (.tmp 3) 5 rfl (hS.before hC hSi 3 rfl) (fa_z5 g3 _) ⟨b, fun _ _ => rfl, rfl, by simpa using hW⟩
        · have h7 : Sx 7 = false := by
            rcases hq : Sx 7 with _ | _
            · rfl
            · have := dep_at (hC 7 _ rfl hq) 5 rfl
              have := dep_at (hC 5 _ rfl this) 1 rfl
              rw [this] at hSi; cases hSi
          rw [h7] at hW
          simp only [Bool.false_eq_true, ite_false] at hW
          exact o_ld _ (.tmp 46) rfl (hS.get 0 (dep_at hdep 0 rfl) rfl rfl) (hW.2.r3.cell 5) (fun w => by kernel_rfl) ⟨b, fun _ _ => rfl, rfl, by simpa [h7] using hW⟩
        · exact o_mv (.tmp 0) rfl (hS.before hC hSi 0 rfl) ⟨b, fun _ _ => rfl, rfl, by simpa using hW⟩
        · have h4 : Sx 4 = false := by
            rcases hq : Sx 4 with _ | _
            · rfl
            · have := dep_at (hC 4 _ rfl hq) 3 rfl
              rw [this] at hSi; cases hSi
          have h5 : Sx 5 = false := by
            rcases hq : Sx 5 with _ | _
            · rfl
            · have := dep_at (hC 5 _ rfl hq) 4 rfl
              rw [this] at h4; cases h4
          have h7 : Sx 7 = false := by
            rcases hq : Sx 7 with _ | _
            · rfl
            · have := dep_at (hC 7 _ rfl hq) 5 rfl
              rw [this] at h5; cases h5
          rw [h7] at hW
          simp only [Bool.false_eq_true, ite_false] at hW
          refine o_call2x _ (.tmp 48) (.const (.int .i64 13)) _ rfl (hS.get 2 (dep_at hdep 2 rfl) rfl rfl) rfl (run_next _ _) (dice_next_l D 13 13 _ rfl (by decide) (by decide) hW.2.dk) ?_
          rintro e w' ⟨j, hj, rfl, hg, hd⟩
          refine ⟨_, rfl, j, fun i hi => ?_, rfl, by omega, by simpa [h7] using hW.2.dice hg hd⟩
          have n3 : i ≠ 3 := fun e => by rw [e, hSi] at hi; cases hi
          have n4 : i ≠ 4 := fun e => by rw [e, h4] at hi; cases hi
          have n5 : i ≠ 5 := fun e => by rw [e, h5] at hi; cases hi
          match i with
          | 0 => rfl
          | 1 => rfl
          | 2 => rfl
          | 3 => exact absurd rfl n3
          | 4 => exact absurd rfl n4
          | 5 => exact absurd rfl n5
          | 6 => rfl
          | 7 => rfl
          | i + 8 => rfl
        · exact o_sl _ (.const (.string abcB)) none (some (.tmp 49)) none rfl rfl rfl (by rw [Option.map_some, hS.get 3 (dep_at hdep 3 rfl) rfl rfl]; rfl) rfl (sl_h abcB b hW.1 _) ⟨b, fun _ _ => rfl, rfl, by simpa using hW⟩
        · exact o_add _ _ (.tmp 47) (.tmp 50) rfl (hS.get 1 (dep_at hdep 1 rfl) rfl rfl) (hS.get 4 (dep_at hdep 4 rfl) rfl rfl) (add_str _ _ (by rw [S_size, ByteArray.size_extract]; have := hW.1; omega) _ _ _) ⟨b, fun _ _ => rfl, rfl, by simpa using hW⟩
        · exact o_fa _ (.tmp 3) 5 rfl (hS.before hC hSi 3 rfl) (fa_z5 g3 _) ⟨b, fun _ _ => rfl, rfl, by simpa using hW⟩
        · rw [hSi] at hW
          simp only [Bool.false_eq_true, ite_false] at hW
          refine wp_store_at 9 (.tmp 52) (.tmp 51) rfl g3 5 _ (.string (S (z.nu ++ abcL.take b))) (hS.get 6 (dep_at hdep 6 rfl) rfl rfl) (by rw [hS.get 5 (dep_at hdep 5 rfl) rfl rfl]; show Value.string (S z.nu ++ abcB.extract 0 b) = _; rw [← S_append]; congr 2; exact (S_extract abcL 0 b)) hW.2.r3 (by simp [zV]) rfl rfl size_st ?_
          intro w' hw hr
          exact ⟨b, fun _ _ => rfl, rfl, by simpa using ⟨hW.1, hW.2.put (us' := zV { z with nu := z.nu ++ abcL.take b }) hw hr⟩⟩
      intro b cur SS hall hW
      rw [hall 7 (by decide)] at hW
      simp only [if_true] at hW
      have HK2 := Lib.hid hW.2
      have HB2 := Lib.hid hW.1
      clear hW hall SS HK
      simp only [putAll, Act.put]
      simp
      go_wp2_with fail
      go_meet
      exact ⟨_, Lib.hid ((bears_set HBZ.out (z.nu ++ abcL.take b) (by rw [S_size, List.length_append, List.length_take]; have : abcL.length = 12 := rfl; omega)).2.2.2.1), HK2⟩
    · go_wp2_with fail
      refine (dice_next_l D 4 4 _ rfl (by decide) (by decide) ((HK.out.alloc _).dk)).mono ?_
      rintro e wp ⟨j, hj, rfl, hg, hd⟩
      obtain ⟨hk, c⟩ := HK.out.pick (l := oddL5) hg hd hj
      have hx4 := odd_at (l := oddL5) (by simp) (j := j) hj
      obtain ⟨x, hx⟩ : ∃ x, oddL5.getD j [] = x := ⟨_, rfl⟩
      rw [hx] at c hx4
      clear HK
      have HK := Lib.hid hk
      have jj : (j : Int) < 4 := by omega
      clear hk hg hd hx
      go_wp2_with ((with_reducible refine at_store_ (i := 60) ?_); refine wpList_store_at rfl 9 (.tmp 60) (.tmp 59) rfl g3 5 _ (.string (S x)) rfl rfl HK.out.r3 (by simp [zV]) rfl rfl size_st ?_; intro ws hw hr; have HK2 : Hid (Mk2 w D ws g4 g3 (zV ({ z with nu := x } : Zn))) := Lib.hid (HK.out.put hw hr); clear hw hr HK; have HK := HK2; clear HK2)
      go_meet
      exact ⟨_, Lib.hid ((bears_set HBZ.out x (by omega)).2.2.2.1), HK⟩
    · go_wp2_with fail
      refine (dice_next_l D 8 8 _ rfl (by decide) (by decide) ((HK.out.alloc _).dk)).mono ?_
      rintro e wp ⟨j, hj, rfl, hg, hd⟩
      obtain ⟨hk, c⟩ := HK.out.pick (l := oddL6) hg hd hj
      have hx4 := odd_at (l := oddL6) (by simp) (j := j) hj
      obtain ⟨x, hx⟩ : ∃ x, oddL6.getD j [] = x := ⟨_, rfl⟩
      rw [hx] at c hx4
      clear HK
      have HK := Lib.hid hk
      have jj : (j : Int) < 8 := by omega
      clear hk hg hd hx
      go_wp2_with ((with_reducible refine at_store_ (i := 68) ?_); refine wpList_store_at rfl 9 (.tmp 68) (.tmp 67) rfl g3 7 _ (.string (S x)) rfl rfl HK.out.r3 (by simp [zV]) rfl rfl size_st ?_; intro ws hw hr; have HK2 : Hid (Mk2 w D ws g4 g3 (zV ({ z with bi := x } : Zn))) := Lib.hid (HK.out.put hw hr); clear hw hr HK; have HK := HK2; clear HK2)
      go_meet
      exact ⟨_, Lib.hid ((bears_set HBZ.out x (by omega)).2.2.2.2.2.1), HK⟩
    · go_wp2_with fail
      refine (dice_next_l D 4 4 _ rfl (by decide) (by decide) ((HK.out.alloc _).dk)).mono ?_
      rintro e wp ⟨j, hj, rfl, hg, hd⟩
      obtain ⟨hk, c⟩ := HK.out.pick (l := oddL7) hg hd hj
      have hx4 := odd_at (l := oddL7) (by simp) (j := j) hj
      obtain ⟨x, hx⟩ : ∃ x, oddL7.getD j [] = x := ⟨_, rfl⟩
      rw [hx] at c hx4
      clear HK
      have HK := Lib.hid hk
      have jj : (j : Int) < 4 := by omega
      clear hk hg hd hx
      go_wp2_with ((with_reducible refine at_store_ (i := 76) ?_); refine wpList_store_at rfl 9 (.tmp 76) (.tmp 75) rfl g3 8 _ (.string (S x)) rfl rfl HK.out.r3 (by simp [zV]) rfl rfl size_st ?_; intro ws hw hr; have HK2 : Hid (Mk2 w D ws g4 g3 (zV ({ z with sx := x } : Zn))) := Lib.hid (HK.out.put hw hr); clear hw hr HK; have HK := HK2; clear HK2)
      go_meet
      exact ⟨_, Lib.hid ((bears_set HBZ.out x (by omega)).2.2.2.2.2.2.1), HK⟩
    · go_wp2_with fail
      refine (dice_next_l D 6 6 _ rfl (by decide) (by decide) ((HK.out.alloc _).dk)).mono ?_
      rintro e wp ⟨j, hj, rfl, hg, hd⟩
      obtain ⟨hk, c⟩ := HK.out.pick (l := oddL8) hg hd hj
      have hx4 := odd_at (l := oddL8) (by simp) (j := j) hj
      obtain ⟨x, hx⟩ : ∃ x, oddL8.getD j [] = x := ⟨_, rfl⟩
      rw [hx] at c hx4
      clear HK
      have HK := Lib.hid hk
      have jj : (j : Int) < 6 := by omega
      clear hk hg hd hx
      go_wp2_with ((with_reducible refine at_store_ (i := 84) ?_); refine wpList_store_at rfl 9 (.tmp 84) (.tmp 83) rfl g3 9 _ (.string (S x)) rfl rfl HK.out.r3 (by simp [zV]) rfl rfl size_st ?_; intro ws hw hr; have HK2 : Hid (Mk2 w D ws g4 g3 (zV ({ z with ex := x } : Zn))) := Lib.hid (HK.out.put hw hr); clear hw hr HK; have HK := HK2; clear HK2)
      go_meet
      exact ⟨_, Lib.hid ((bears_set HBZ.out x (by omega)).2.2.2.2.2.2.2.1), HK⟩
    · go_wp2_with fail
      refine (dice_next_l D 5 5 _ rfl (by decide) (by decide) ((HK.out.alloc _).dk)).mono ?_
      rintro e wp ⟨j, hj, rfl, hg, hd⟩
      obtain ⟨hk, c⟩ := HK.out.pick (l := oddL9) hg hd hj
      have hx4 := odd_at (l := oddL9) (by simp) (j := j) hj
      obtain ⟨x, hx⟩ : ∃ x, oddL9.getD j [] = x := ⟨_, rfl⟩
      rw [hx] at c hx4
      clear HK
      have HK := Lib.hid hk
      have jj : (j : Int) < 5 := by omega
      clear hk hg hd hx
      go_wp2_with ((with_reducible refine at_store_ (i := 92) ?_); refine wpList_store_at rfl 9 (.tmp 92) (.tmp 91) rfl g3 10 _ (.string (S x)) rfl rfl HK.out.r3 (by simp [zV]) rfl rfl size_st ?_; intro ws hw hr; have HK2 : Hid (Mk2 w D ws g4 g3 (zV ({ z with op := x } : Zn))) := Lib.hid (HK.out.put hw hr); clear hw hr HK; have HK := HK2; clear HK2)
      go_meet
      exact ⟨_, Lib.hid ((bears_set HBZ.out x (by omega)).2.2.2.2.2.2.2.2.1), HK⟩
    · go_wp2_with fail
      refine (dice_next_l D 4 4 _ rfl (by decide) (by decide) ((HK.out.alloc _).dk)).mono ?_
      rintro e wp ⟨j, hj, rfl, hg, hd⟩
      obtain ⟨hk, c⟩ := HK.out.pick (l := oddL10) hg hd hj
      have hx4 := odd_at (l := oddL10) (by simp) (j := j) hj
      obtain ⟨x, hx⟩ : ∃ x, oddL10.getD j [] = x := ⟨_, rfl⟩
      rw [hx] at c hx4
      clear HK
      have HK := Lib.hid hk
      have jj : (j : Int) < 4 := by omega
      clear hk hg hd hx
      go_wp2_with ((with_reducible refine at_store_ (i := 100) ?_); refine wpList_store_at rfl 9 (.tmp 100) (.tmp 99) rfl g3 11 _ (.string (S x)) rfl rfl HK.out.r3 (by simp [zV]) rfl rfl size_st ?_; intro ws hw hr; have HK2 : Hid (Mk2 w D ws g4 g3 (zV ({ z with se := x } : Zn))) := Lib.hid (HK.out.put hw hr); clear hw hr HK; have HK := HK2; clear HK2)
      go_meet
      exact ⟨_, Lib.hid ((bears_set HBZ.out x (by omega)).2.2.2.2.2.2.2.2.2), HK⟩
    · go_wp2_with fail
      refine (dice_next_l D 3 3 _ rfl (by decide) (by decide) ((HK.out.alloc _).dk)).mono ?_
      rintro e wp ⟨j, hj, rfl, hg, hd⟩
      obtain ⟨hk, c⟩ := HK.out.pick (l := oddL11) hg hd hj
      have hx4 := odd_at (l := oddL11) (by simp) (j := j) hj
      obtain ⟨x, hx⟩ : ∃ x, oddL11.getD j [] = x := ⟨_, rfl⟩
      rw [hx] at c hx4
      clear HK
      have HK := Lib.hid hk
      have jj : (j : Int) < 3 := by omega
      clear hk hg hd hx
      go_wp2_with ((with_reducible refine at_store_ (i := 12) ?_); refine wpList_store_at rfl 9 (.tmp 12) (.tmp 11) rfl g3 6 _ (.string (S x)) rfl rfl HK.out.r3 (by simp [zV]) rfl rfl size_st ?_; intro ws hw hr; have HK2 : Hid (Mk2 w D ws g4 g3 (zV ({ z with na := x } : Zn))) := Lib.hid (HK.out.put hw hr); clear hw hr HK; have HK := HK2; clear HK2)
      go_meet
      exact ⟨_, Lib.hid ((bears_set HBZ.out x (by omega)).2.2.2.2.1), HK⟩
  case rest =>
    clear HK HBZ
    obtain ⟨z', HB', HK⟩ := hcut
    obtain ⟨vs, hvs⟩ : ∃ vs, zV z' = vs := ⟨_, rfl⟩
    rw [hvs] at HK
    have HVL : Hid (vs.length = zon0.length ∧ (∀ u ∈ vs, u.oneCell' = true) ∧ (Tryz.prog.info? 23).map (·.size) = some vs.length) := Lib.hid (by rw [← hvs]; exact ⟨rfl, zV_one _, size_z⟩)
    have HVS := Lib.hid hvs
    clear hvs
    go_wp2_with (first
      | ((with_reducible refine at_load_ (d := 101) ?_); refine wpList_load_v rfl 23 (.tmp 3) rfl g3 rfl vs _ HK.out.r3 Tryz.underlying23 rfl HVL.out.2.2 ?_)
      | ((with_reducible refine at_store_ (i := 4) ?_); refine wpList_store_v rfl 23 (.tmp 4) (.tmp 101) rfl g4 zon0 vs rfl rfl HK.out.r2 HVL.out.1 HVL.out.2.1 HVL.out.2.2 ?_; intro wz hw hr; have HF := Lib.hid (And.intro (HK.out.res hw) hr); clear hw hr HK))
    exact bodyPost_ret (results_v rfl _ _ g4 _ _ rfl HF.out.2 Tryz.underlying23 rfl HVL.out.2.2) rfl ⟨z', by rw [HVS.out], HB'.out, HF.out.1.1, HF.out.1.2⟩
end Go.Proofs.YtdlcoilpkelbaaaGreatDoor
