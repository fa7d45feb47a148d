/-
  What is proved here: the zone that the texts of the fields stand for, as the program reads it.
-/
import Derived.Test.YtibahbkjjfmbgaaGreatDoorUZdm
import Derived.Test.YtibahbkjjfmbgaaGreatDoorUY2
import Derived.Test.YtibahbkjjfmbgaaGreatDoorUY7
namespace Go.Proofs.YtibahbkjjfmbgaaGreatDoor
open Go.RowKit Go.Maps
set_option linter.unusedVariables false
def zon0 : List Value := zV Zn.zero
theorem info_z : (Tryz.prog.info? 44).map (·.zero) = some (some (.agg zon0.toArray)) := by kernel_rfl
theorem size_z : (Tryz.prog.info? 44).map (·.size) = some 12 := by kernel_rfl
theorem zV_one (z : Zn) : ∀ u ∈ zV z, u.oneCell' = true := by
 intro u hu
 simp [zV] at hu
 rcases hu with rfl | rfl | rfl | rfl | rfl | rfl | rfl | rfl | rfl | rfl | rfl | rfl <;> rfl
theorem fa_l0 (g : Nat) (w : World) : (Instr.fieldAt 88 (.pointer (some ⟨g, 0, none⟩)) 0).run Tryz.prog w = .ok (.pointer (some ⟨g, 0, none⟩)) w := by kernel_rfl
theorem build_z (f : Int) (a1 a2 a3 a4 a5 a6 a7 a8 a9 a10 a11 : ByteArray) (w : World) : (Instr.build 44 #[(0, .int .i64 f), (1, .string a1), (2, .string a2), (3, .string a3), (4, .string a4), (5, .string a5), (6, .string a6), (7, .string a7), (8, .string a8), (9, .string a9), (10, .string a10), (11, .string a11)]).run Tryz.prog w = .ok (.agg #[.int .i64 f, .string a1, .string a2, .string a3, .string a4, .string a5, .string a6, .string a7, .string a8, .string a9, .string a10, .string a11]) w := by kernel_rfl
theorem run_unf (vs : Array Value) (w : World) : (callFunc 98 vs).run Tryz.prog w = .ok (.enter 98 vs) w :=
 run_enter (c := _) Tryz.func98 (by decide) rfl vs w
section
variable {a : Act} {w : World} {K : Act → World → Prop} {Q : Exit → Act → World → Prop} {o : Oper}
theorem o_build {P : Program} (T : TypeId) (ps : Array (Nat × Operand)) (ho : o.op = .build T ps) {vs : Array (Nat × Value)} {v : Value} (hx : ps.map (fun p => (p.1, a.eval p.2)) = vs) (hr : (Instr.build T vs).run P w = .ok v w) (hK : K (a.put o.dst v) w) : o.wp P a w K Q := by
 unfold Oper.wp execOp
 simp only [ho, hx, Sem.run_bind, hr, Result.andThen_ok, Sem.run_pure]
 exact hK
theorem o_look (m x : Operand) (ho : o.op = .lookup mT m x false) (b n : Nat) (T : Nat → List UInt8) (hm : a.eval m = .map (some b)) (h : MapIs w b n T) (k : Nat) (hk : k < 15) (hx : a.eval x = .int .i64 (k : Int)) (hK : K (a.put o.dst (.string (S (T k)))) w) : o.wp Tryz.prog a w K Q := by
 have hr := h.look hk
 unfold Oper.wp execOp
 simp only [ho, hm, hx, Sem.run_bind, hr, Result.andThen_ok, Sem.run_pure]
 exact hK
end
theorem zn_val (z : Zn) : z.val = .agg (zV z).toArray := rfl
set_option maxHeartbeats 3200000 in
set_option maxRecDepth 20000 in
theorem p_zo (f : Int) (hf : 1 ≤ f ∧ f ≤ 3) (b n : Nat) (T : Nat → List UInt8) (w : World) (hM : Mm w) (hm : MapIs w b n T) (hz : ∀ k, k < 15 → (S (T k)).size ≤ 64) :
 Calls Tryz.prog 62 #[.map (some b), .agg (layV f).toArray] w fun e w' => e = .returned (.tuple #[(zoV f T).val, .int .i64 (zoE f T)]) ∧ Below w.heap.size w w' := by
 have HM := Lib.hid hM
 have HF := Lib.hid hf
 have HMP := Lib.hid hm
 have HLF : Hid ((layV f)[0]? = some (.int .i64 f)) := Lib.hid rfl
 obtain ⟨V4, hV4⟩ : ∃ V, S (T 4) = V := ⟨_, rfl⟩
 obtain ⟨V3, hV3⟩ : ∃ V, S (T 3) = V := ⟨_, rfl⟩
 obtain ⟨V11, hV11⟩ : ∃ V, S (T 11) = V := ⟨_, rfl⟩
 obtain ⟨V2, hV2⟩ : ∃ V, S (T 2) = V := ⟨_, rfl⟩
 obtain ⟨mx, hmx⟩ : ∃ mx, maxN f = mx := ⟨_, rfl⟩
 have HMX : Hid ((layV f)[3]? = some (.int .i64 (mx : Int))) := Lib.hid (by rw [← hmx]; exact lay_mx hf)
 have e40 : (V4.toList == [60]) = decide (T 4 = [60]) := by rw [← hV4, S_toList, Bool.eq_iff_iff]; simp
 have HUN : Hid (∀ (k : Nat), k < 15 → ∀ w, Calls Tryz.prog 98 #[.string (S (T k))] w fun e w' => e = .returned (.string (S (trimT (T k)))) ∧ Below w.heap.size w w') := Lib.hid (fun k hk w => (p_unf (S (T k)) (T k) rfl w (by have := hz k hk; omega)).mono fun e w' h => ⟨h.1, by rw [h.2]; exact Below.refl _ _⟩)
 have hjn := fun (w : World) (hM : Mm w) => p_join V3 V4 V11 (T 3) (T 4) (T 11) hV3.symm hV4.symm hV11.symm w (by rw [← hV3]; exact hz 3 (by decide)) (by rw [← hV11]; exact hz 11 (by decide)) hM
 obtain ⟨X1, hX1⟩ : ∃ X, (if jE (T 4) (T 3) (T 11) = 0 then jN (T 4) (T 3) (T 11) else []) = X := ⟨_, rfl⟩
 obtain ⟨X2, hX2⟩ : ∃ X, (if jE (T 4) (T 3) (T 11) = 0 then jO (T 4) (T 11) else []) = X := ⟨_, rfl⟩
 have HJ0 : Hid ((jnE T = 0 → ∀ w, Mm w → Calls Tryz.prog 99 #[.string V3, .string V4, .string V11] w fun e w' => e = .returned (.tuple #[.string (S (jnN T)), .string (S (jnO T)), .int .i64 0]) ∧ Below w.heap.size w w') ∧
  (∀ j, jnE T = j → ∀ w, Mm w → Calls Tryz.prog 99 #[.string V3, .string V4, .string V11] w fun e w' => e = .returned (.tuple #[.string (S X1), .string (S X2), .int .i64 j]) ∧ Below w.heap.size w w')) := Lib.hid ⟨fun h w hM => by
  have h1 := hjn w hM
  have h2 : jE (T 4) (T 3) (T 11) = 0 := h
  rw [h2, if_pos rfl, if_pos rfl] at h1
  exact h1, fun j h w hM => by rw [← h, ← hX1, ← hX2]; exact hjn w hM⟩
 have hsp : ∀ w, Mm w → Calls Tryz.prog 100 #[.string V2] w fun e w' => e = .returned (.tuple #[.string (S (spA (T 2))), .string (S (spB (T 2))), .bool (spF (T 2)), .int .i64 (spE (T 2))]) ∧ Below w.heap.size w w' := fun w hM => by
  obtain ⟨m, hm⟩ := hM.2.2.2.2
  exact p_split V2 (T 2) hV2.symm w (by rw [← hV2]; have := hz 2 (by decide); omega) m hm
 have HS0 : Hid ((spE (T 2) = 0 → ∀ w, Mm w → Calls Tryz.prog 100 #[.string V2] w fun e w' => e = .returned (.tuple #[.string (S (spA (T 2))), .string (S (spB (T 2))), .bool (spF (T 2)), .int .i64 0]) ∧ Below w.heap.size w w') ∧
  (∀ sp, spE (T 2) = sp → ∀ w, Mm w → Calls Tryz.prog 100 #[.string V2] w fun e w' => e = .returned (.tuple #[.string (S (spA (T 2))), .string (S (spB (T 2))), .bool (spF (T 2)), .int .i64 sp]) ∧ Below w.heap.size w w')) := Lib.hid ⟨fun h w hM => by rw [← h]; exact hsp w hM, fun sp h w hM => by rw [← h]; exact hsp w hM⟩
 have HV := Lib.hid (show _ ∧ _ ∧ _ ∧ _ from ⟨hV4, hV3, hV11, hV2⟩)
 have HSL : Hid ((Tryz.prog.info? 88).map (·.size) = some (layV f).length) := Lib.hid (by rw [layV_len hf]; exact size_l)
 have HO := Lib.hid (Own.start w)
 clear hM hm hz hV4 hV3 hV11 hV2 hjn hsp hX1 hX2
 rcases hb4 : decide (T 4 = [60]) with _ | _
 ·
  have e4 : (V4.toList == [60]) = false := e40.trans hb4
  clear e40
  by_cases hj : jnE T = 0
  ·
   by_cases hs : spE (T 2) = 0
   ·
    have HE : Hid (zoE f T = 0 ∧ zV (zoV f T) = zV (zoZ f T)) := Lib.hid (by
     have h1 : zoE f T = 0 := by unfold zoE; rw [if_neg (by rw [decide_eq_false_iff_not] at hb4; exact fun h => hb4 h.1), if_neg (by rw [hj]; decide)]; exact hs
     refine ⟨h1, ?_⟩
     unfold zoV
     rw [if_pos h1])
    have HJ := Lib.hid (HJ0.out.1 hj)
    have HSP := Lib.hid (HS0.out.1 hs)
    clear hj hs hb4 HJ0 HS0
    go_enter Tryz.func62, Tryz.ntmps62
    go_wp2_with (first
     | ((with_reducible refine at_box_ (d := 3) ?_); refine wpList_box_v (op := ⟨some 3, _, _, _, _, _⟩) rfl 88 _ rfl (layV f) rfl ?_; intro g3 v3b hf hr; replace HO := Lib.hid (HO.out.new hf hr); clear hf hr)
     | ((with_reducible refine at_alloc_ (d := 4) ?_); refine wpList_alloc_v (op := ⟨some 4, _, _, _, _, _⟩) rfl 44 rfl zon0 info_z ?_; intro g4 v4a hf hr; replace HO := Lib.hid (HO.out.new hf hr); clear hf hr)
     | ((with_reducible refine at_look_ (d := 13) ?_); refine wpList_look_m rfl _ _ rfl b n T rfl (HMP.out.on HO.out.bl) 4 (by decide) rfl ?_; rw [HV.out.1])
     | ((with_reducible refine at_load_ (d := 17) ?_); refine wpList_load_cg (by rfl) 3 _ rfl g3 3 rfl _ (((HO.out.row (i := 0) rfl).cell 3).trans HMX.out) Tryz.isAgg3 ?_)
     | ((with_reducible refine at_look_ (d := 23) ?_); refine wpList_look_m rfl _ _ rfl b n T rfl (HMP.out.on HO.out.bl) 3 (by decide) rfl ?_; rw [HV.out.2.1])
     | ((with_reducible refine at_look_ (d := 25) ?_); refine wpList_look_m rfl _ _ rfl b n T rfl (HMP.out.on HO.out.bl) 4 (by decide) rfl ?_; rw [HV.out.1])
     | ((with_reducible refine at_look_ (d := 27) ?_); refine wpList_look_m rfl _ _ rfl b n T rfl (HMP.out.on HO.out.bl) 11 (by decide) rfl ?_; rw [HV.out.2.2.1])
     | (go_at_call 99; ((with_reducible refine (HJ.out _ (HM.out.on HO.out.bl)).mono ?_); rintro e w9 ⟨rfl, hb⟩); replace HO := Lib.hid (HO.out.on hb); clear hb)
     | ((with_reducible refine at_look_ (d := 38) ?_); refine wpList_look_m rfl _ _ rfl b n T rfl (HMP.out.on HO.out.bl) 2 (by decide) rfl ?_; rw [HV.out.2.2.2])
     | (go_at_call 100; ((with_reducible refine (HSP.out _ (HM.out.on HO.out.bl)).mono ?_); rintro e w9 ⟨rfl, hb⟩); replace HO := Lib.hid (HO.out.on hb); clear hb))
    refine region_setC (by kernel_rfl) _ (fun (_ : Unit) i => ([.pointer (some ⟨g3, 0, none⟩), .int .i64 f, .map (some b), .string (S (T 0)), .string (S (trimT (T 0))), .map (some b), .string (S (T 1)), .string (S (trimT (T 1))), .string (S (spA (T 2))), .string (S (spB (T 2))), .string (S (jnN T)), .map (some b), .string (S (T 5)), .string (S (trimT (T 5))), .map (some b), .string (S (T 6)), .map (some b), .string (S (T 8)), .map (some b), .string (S (T 9)), .string (S (jnO T)), .map (some b), .string (S (T 13)), .string (S (trimT (T 13))), .agg (zV (zoZ f T)).toArray, undef, .int .i64 0] : List Value).getD i undef) (fun _ S cur => Own w cur [(g3, layV f), (g4, if S 25 = true then zV (zoZ f T) else zon0)]) (by kernel_rfl) () (HO.out.on (below_drewN _ _ 1)) ?_ ?_
    ·
     refine ops_all (allI.cons ?_ (allI.cons ?_ (allI.cons ?_ (allI.cons ?_ (allI.cons ?_ (allI.cons ?_ (allI.cons ?_ (allI.cons ?_ (allI.cons ?_ (allI.cons ?_ (allI.cons ?_ (allI.cons ?_ (allI.cons ?_ (allI.cons ?_ (allI.cons ?_ (allI.cons ?_ (allI.cons ?_ (allI.cons ?_ (allI.cons ?_ (allI.cons ?_ (allI.cons ?_ (allI.cons ?_ (allI.cons ?_ (allI.cons ?_ (allI.cons ?_ (allI.cons ?_ (allI.cons ?_ allI.nil))))))))))))))))))))))))))) <;> intro _ S cur a hW hSi hdep hS hC <;> refine ⟨(), fun _ _ => rfl, ?_⟩
     · exact o_fa _ (.tmp 3) 0 rfl (hS.before hC hSi 3 rfl) (fa_l0 g3 _) ⟨rfl, by simpa using hW⟩
     · exact o_ld _ (.tmp 48) rfl (hS.get 0 (dep_at hdep 0 rfl) rfl rfl) (((hW.row (i := 0) rfl).cell 0).trans HLF.out) Tryz.isAgg3 ⟨rfl, by simpa using hW⟩
     · exact o_mv (.tmp 0) rfl (hS.before hC hSi 0 rfl) ⟨rfl, by simpa using hW⟩
     · exact o_look (.tmp 50) _ rfl b n T (hS.get 2 (dep_at hdep 2 rfl) rfl rfl) (HMP.out.on hW.bl) 0 (by decide) rfl ⟨rfl, by simpa using hW⟩
     · exact o_call1 _ (.tmp 51) _ rfl (hS.get 3 (dep_at hdep 3 rfl) rfl rfl) (run_unf _ _) (HUN.out 0 (by decide) _) fun w' hb => ⟨rfl, by simpa using hW.on hb⟩
     · exact o_mv (.tmp 0) rfl (hS.before hC hSi 0 rfl) ⟨rfl, by simpa using hW⟩
     · exact o_look (.tmp 53) _ rfl b n T (hS.get 5 (dep_at hdep 5 rfl) rfl rfl) (HMP.out.on hW.bl) 1 (by decide) rfl ⟨rfl, by simpa using hW⟩
     · exact o_call1 _ (.tmp 54) _ rfl (hS.get 6 (dep_at hdep 6 rfl) rfl rfl) (run_unf _ _) (HUN.out 1 (by decide) _) fun w' hb => ⟨rfl, by simpa using hW.on hb⟩
     · exact o_mv (.tmp 9) rfl (hS.before hC hSi 9 rfl) ⟨rfl, by simpa using hW⟩
     · exact o_mv (.tmp 10) rfl (hS.before hC hSi 10 rfl) ⟨rfl, by simpa using hW⟩
     · exact o_mv (.tmp 6) rfl (hS.before hC hSi 6 rfl) ⟨rfl, by simpa using hW⟩
     · exact o_mv (.tmp 0) rfl (hS.before hC hSi 0 rfl) ⟨rfl, by simpa using hW⟩
     · exact o_look (.tmp 59) _ rfl b n T (hS.get 11 (dep_at hdep 11 rfl) rfl rfl) (HMP.out.on hW.bl) 5 (by decide) rfl ⟨rfl, by simpa using hW⟩
     · exact o_call1 _ (.tmp 60) _ rfl (hS.get 12 (dep_at hdep 12 rfl) rfl rfl) (run_unf _ _) (HUN.out 5 (by decide) _) fun w' hb => ⟨rfl, by simpa using hW.on hb⟩
     · exact o_mv (.tmp 0) rfl (hS.before hC hSi 0 rfl) ⟨rfl, by simpa using hW⟩
     · exact o_look (.tmp 62) _ rfl b n T (hS.get 14 (dep_at hdep 14 rfl) rfl rfl) (HMP.out.on hW.bl) 6 (by decide) rfl ⟨rfl, by simpa using hW⟩
     · exact o_mv (.tmp 0) rfl (hS.before hC hSi 0 rfl) ⟨rfl, by simpa using hW⟩
     · exact o_look (.tmp 64) _ rfl b n T (hS.get 16 (dep_at hdep 16 rfl) rfl rfl) (HMP.out.on hW.bl) 8 (by decide) rfl ⟨rfl, by simpa using hW⟩
     · exact o_mv (.tmp 0) rfl (hS.before hC hSi 0 rfl) ⟨rfl, by simpa using hW⟩
     · exact o_look (.tmp 66) _ rfl b n T (hS.get 18 (dep_at hdep 18 rfl) rfl rfl) (HMP.out.on hW.bl) 9 (by decide) rfl ⟨rfl, by simpa using hW⟩
     · exact o_mv (.tmp 7) rfl (hS.before hC hSi 7 rfl) ⟨rfl, by simpa using hW⟩
     · exact o_mv (.tmp 0) rfl (hS.before hC hSi 0 rfl) ⟨rfl, by simpa using hW⟩
     · exact o_look (.tmp 69) _ rfl b n T (hS.get 21 (dep_at hdep 21 rfl) rfl rfl) (HMP.out.on hW.bl) 13 (by decide) rfl ⟨rfl, by simpa using hW⟩
     · exact o_call1 _ (.tmp 70) _ rfl (hS.get 22 (dep_at hdep 22 rfl) rfl rfl) (run_unf _ _) (HUN.out 13 (by decide) _) fun w' hb => ⟨rfl, by simpa using hW.on hb⟩
     · exact o_build _ _ rfl (by simp only [List.map_toArray, List.map_cons, List.map_nil, (hS.get 1 (dep_at hdep 1 rfl) rfl rfl), (hS.get 4 (dep_at hdep 4 rfl) rfl rfl), (hS.get 7 (dep_at hdep 7 rfl) rfl rfl), (hS.get 8 (dep_at hdep 8 rfl) rfl rfl), (hS.get 9 (dep_at hdep 9 rfl) rfl rfl), (hS.get 10 (dep_at hdep 10 rfl) rfl rfl), (hS.get 13 (dep_at hdep 13 rfl) rfl rfl), (hS.get 15 (dep_at hdep 15 rfl) rfl rfl), (hS.get 17 (dep_at hdep 17 rfl) rfl rfl), (hS.get 19 (dep_at hdep 19 rfl) rfl rfl), (hS.get 20 (dep_at hdep 20 rfl) rfl rfl), (hS.get 23 (dep_at hdep 23 rfl) rfl rfl)]; rfl) (build_z _ _ _ _ _ _ _ _ _ _ _ _ _) ⟨rfl, by simpa using hW⟩
     · rw [hSi] at hW
       replace hW : Own w cur [(g3, layV f), (g4, zon0)] := hW
       refine wp_store_v 44 (.tmp 4) (.tmp 72) rfl g4 zon0 (zV (zoZ f T)) (hS.before hC hSi 4 rfl) (hS.get 24 (dep_at hdep 24 rfl) rfl rfl) (hW.row (i := 1) rfl) rfl (zV_one _) size_z ?_
       intro w' hw hr
       exact ⟨rfl, by simpa using hW.set (i := 1) rfl hw hr⟩
     · exact o_as _ rfl rfl ⟨rfl, by simpa using hW⟩
    · intro _ cur S hall hW
      rw [hall 25 (by decide)] at hW
      replace hW : Own w cur [(g3, layV f), (g4, zV (zoZ f T))] := hW
      simp only [putAll, Act.put]
      simp
      have HW := Lib.hid hW
      go_wp2
      exact bodyPost_ret (results_v1 rfl _ _ g4 (zV (zoZ f T)) _ rfl (HW.out.row (i := 1) rfl) Tryz.underlying44 rfl size_z) rfl ⟨by rw [zn_val, HE.out.2, HE.out.1]; rfl, HW.out.bl⟩
   ·
    skip
    obtain ⟨sp, hsp⟩ : ∃ sp, spE (T 2) = sp := ⟨_, rfl⟩
    have hne : sp ≠ 0 := by rw [← hsp]; exact hs
    have HE : Hid (zoE f T = sp ∧ zV (zoV f T) = zon0) := Lib.hid (by
     have h1 : zoE f T = sp := by unfold zoE; rw [if_neg (by rw [decide_eq_false_iff_not] at hb4; exact fun h => hb4 h.1), if_neg (by rw [hj]; decide)]; exact hsp
     refine ⟨h1, ?_⟩
     unfold zoV
     rw [h1, if_neg hne]
     rfl)
    have n1 : (sp == 0) = false := by simpa using hne
    have HJ := Lib.hid (HJ0.out.1 hj)
    have HSP := Lib.hid (HS0.out.2 sp hsp)
    clear hj hs hb4 hsp HJ0 HS0
    go_enter Tryz.func62, Tryz.ntmps62
    go_wp2_with (first
     | ((with_reducible refine at_box_ (d := 3) ?_); refine wpList_box_v (op := ⟨some 3, _, _, _, _, _⟩) rfl 88 _ rfl (layV f) rfl ?_; intro g3 v3b hf hr; replace HO := Lib.hid (HO.out.new hf hr); clear hf hr)
     | ((with_reducible refine at_alloc_ (d := 4) ?_); refine wpList_alloc_v (op := ⟨some 4, _, _, _, _, _⟩) rfl 44 rfl zon0 info_z ?_; intro g4 v4a hf hr; replace HO := Lib.hid (HO.out.new hf hr); clear hf hr)
     | ((with_reducible refine at_look_ (d := 13) ?_); refine wpList_look_m rfl _ _ rfl b n T rfl (HMP.out.on HO.out.bl) 4 (by decide) rfl ?_; rw [HV.out.1])
     | ((with_reducible refine at_load_ (d := 17) ?_); refine wpList_load_cg (by rfl) 3 _ rfl g3 3 rfl _ (((HO.out.row (i := 0) rfl).cell 3).trans HMX.out) Tryz.isAgg3 ?_)
     | ((with_reducible refine at_look_ (d := 23) ?_); refine wpList_look_m rfl _ _ rfl b n T rfl (HMP.out.on HO.out.bl) 3 (by decide) rfl ?_; rw [HV.out.2.1])
     | ((with_reducible refine at_look_ (d := 25) ?_); refine wpList_look_m rfl _ _ rfl b n T rfl (HMP.out.on HO.out.bl) 4 (by decide) rfl ?_; rw [HV.out.1])
     | ((with_reducible refine at_look_ (d := 27) ?_); refine wpList_look_m rfl _ _ rfl b n T rfl (HMP.out.on HO.out.bl) 11 (by decide) rfl ?_; rw [HV.out.2.2.1])
     | (go_at_call 99; ((with_reducible refine (HJ.out _ (HM.out.on HO.out.bl)).mono ?_); rintro e w9 ⟨rfl, hb⟩); replace HO := Lib.hid (HO.out.on hb); clear hb)
     | ((with_reducible refine at_look_ (d := 38) ?_); refine wpList_look_m rfl _ _ rfl b n T rfl (HMP.out.on HO.out.bl) 2 (by decide) rfl ?_; rw [HV.out.2.2.2])
     | (go_at_call 100; ((with_reducible refine (HSP.out _ (HM.out.on HO.out.bl)).mono ?_); rintro e w9 ⟨rfl, hb⟩); replace HO := Lib.hid (HO.out.on hb); clear hb)
     | ((with_reducible refine at_store_ (i := 4) ?_); refine wpList_store_v rfl 44 (.tmp 4) (.tmp 46) rfl g4 zon0 zon0 rfl rfl (HO.out.row (i := 1) rfl) rfl (zV_one _) size_z ?_; intro v4s hw hr; replace HO := Lib.hid (HO.out.set (i := 1) rfl hw hr); clear hw hr))
    exact bodyPost_ret (results_v1 rfl _ _ g4 zon0 _ rfl (HO.out.row (i := 1) rfl) Tryz.underlying44 rfl size_z) rfl ⟨by rw [zn_val, HE.out.2, HE.out.1]; rfl, HO.out.bl⟩
  ·
   skip
   obtain ⟨j, hjj⟩ : ∃ j, jnE T = j := ⟨_, rfl⟩
   have hne : j ≠ 0 := by rw [← hjj]; exact hj
   have HE : Hid (zoE f T = j ∧ zV (zoV f T) = zon0) := Lib.hid (by
    have h1 : zoE f T = j := by unfold zoE; rw [if_neg (by rw [decide_eq_false_iff_not] at hb4; exact fun h => hb4 h.1), if_pos hj]; exact hjj
    refine ⟨h1, ?_⟩
    unfold zoV
    rw [h1, if_neg hne]
    rfl)
   have n1 : (j == 0) = false := by simpa using hne
   have HJ := Lib.hid (HJ0.out.2 j hjj)
   clear hj hb4 hjj HJ0 HS0
   go_enter Tryz.func62, Tryz.ntmps62
   go_wp2_with (first
    | ((with_reducible refine at_box_ (d := 3) ?_); refine wpList_box_v (op := ⟨some 3, _, _, _, _, _⟩) rfl 88 _ rfl (layV f) rfl ?_; intro g3 v3b hf hr; replace HO := Lib.hid (HO.out.new hf hr); clear hf hr)
    | ((with_reducible refine at_alloc_ (d := 4) ?_); refine wpList_alloc_v (op := ⟨some 4, _, _, _, _, _⟩) rfl 44 rfl zon0 info_z ?_; intro g4 v4a hf hr; replace HO := Lib.hid (HO.out.new hf hr); clear hf hr)
    | ((with_reducible refine at_look_ (d := 13) ?_); refine wpList_look_m rfl _ _ rfl b n T rfl (HMP.out.on HO.out.bl) 4 (by decide) rfl ?_; rw [HV.out.1])
    | ((with_reducible refine at_load_ (d := 17) ?_); refine wpList_load_cg (by rfl) 3 _ rfl g3 3 rfl _ (((HO.out.row (i := 0) rfl).cell 3).trans HMX.out) Tryz.isAgg3 ?_)
    | ((with_reducible refine at_look_ (d := 23) ?_); refine wpList_look_m rfl _ _ rfl b n T rfl (HMP.out.on HO.out.bl) 3 (by decide) rfl ?_; rw [HV.out.2.1])
    | ((with_reducible refine at_look_ (d := 25) ?_); refine wpList_look_m rfl _ _ rfl b n T rfl (HMP.out.on HO.out.bl) 4 (by decide) rfl ?_; rw [HV.out.1])
    | ((with_reducible refine at_look_ (d := 27) ?_); refine wpList_look_m rfl _ _ rfl b n T rfl (HMP.out.on HO.out.bl) 11 (by decide) rfl ?_; rw [HV.out.2.2.1])
    | (go_at_call 99; ((with_reducible refine (HJ.out _ (HM.out.on HO.out.bl)).mono ?_); rintro e w9 ⟨rfl, hb⟩); replace HO := Lib.hid (HO.out.on hb); clear hb)
    | ((with_reducible refine at_store_ (i := 4) ?_); refine wpList_store_v rfl 44 (.tmp 4) (.tmp 34) rfl g4 zon0 zon0 rfl rfl (HO.out.row (i := 1) rfl) rfl (zV_one _) size_z ?_; intro v4s hw hr; replace HO := Lib.hid (HO.out.set (i := 1) rfl hw hr); clear hw hr))
   exact bodyPost_ret (results_v1 rfl _ _ g4 zon0 _ rfl (HO.out.row (i := 1) rfl) Tryz.underlying44 rfl size_z) rfl ⟨by rw [zn_val, HE.out.2, HE.out.1]; rfl, HO.out.bl⟩
 ·
  have e4 : (V4.toList == [60]) = true := e40.trans hb4
  clear e40
  by_cases h3 : f = 3
  ·
   have hm9 : mx ≤ 9 := by rw [← hmx, h3]; decide
   have HE : Hid (zoE f T = 1 ∧ zV (zoV f T) = zon0) := Lib.hid (by
    have h1 : zoE f T = 1 := by unfold zoE; rw [if_pos ⟨by simpa using hb4, h3⟩]
    refine ⟨h1, ?_⟩
    unfold zoV
    rw [h1, if_neg (by decide)]
    rfl)
   clear hb4 h3 hmx HJ0 HS0
   go_enter Tryz.func62, Tryz.ntmps62
   go_wp2_with (first
    | ((with_reducible refine at_box_ (d := 3) ?_); refine wpList_box_v (op := ⟨some 3, _, _, _, _, _⟩) rfl 88 _ rfl (layV f) rfl ?_; intro g3 v3b hf hr; replace HO := Lib.hid (HO.out.new hf hr); clear hf hr)
    | ((with_reducible refine at_alloc_ (d := 4) ?_); refine wpList_alloc_v (op := ⟨some 4, _, _, _, _, _⟩) rfl 44 rfl zon0 info_z ?_; intro g4 v4a hf hr; replace HO := Lib.hid (HO.out.new hf hr); clear hf hr)
    | ((with_reducible refine at_look_ (d := 13) ?_); refine wpList_look_m rfl _ _ rfl b n T rfl (HMP.out.on HO.out.bl) 4 (by decide) rfl ?_; rw [HV.out.1])
    | ((with_reducible refine at_load_ (d := 17) ?_); refine wpList_load_cg (by rfl) 3 _ rfl g3 3 rfl _ (((HO.out.row (i := 0) rfl).cell 3).trans HMX.out) Tryz.isAgg3 ?_)
    | ((with_reducible refine at_store_ (i := 4) ?_); refine wpList_store_v rfl 44 (.tmp 4) (.tmp 20) rfl g4 zon0 zon0 rfl rfl (HO.out.row (i := 1) rfl) rfl (zV_one _) size_z ?_; intro v4s hw hr; replace HO := Lib.hid (HO.out.set (i := 1) rfl hw hr); clear hw hr))
   exact bodyPost_ret (results_v1 rfl _ _ g4 zon0 _ rfl (HO.out.row (i := 1) rfl) Tryz.underlying44 rfl size_z) rfl ⟨by rw [zn_val, HE.out.2, HE.out.1]; rfl, HO.out.bl⟩
  ·
   have hm9 : ¬ mx ≤ 9 := by
    rw [← hmx]
    have h12 : f = 1 ∨ f = 2 := by have := HF.out; omega
    rcases h12 with e | e <;> rw [e] <;> decide
   clear hmx
   by_cases hj : jnE T = 0
   ·
    by_cases hs : spE (T 2) = 0
    ·
     have HE : Hid (zoE f T = 0 ∧ zV (zoV f T) = zV (zoZ f T)) := Lib.hid (by
      have h1 : zoE f T = 0 := by unfold zoE; rw [if_neg (fun h => h3 h.2), if_neg (by rw [hj]; decide)]; exact hs
      refine ⟨h1, ?_⟩
      unfold zoV
      rw [if_pos h1])
     have HJ := Lib.hid (HJ0.out.1 hj)
     have HSP := Lib.hid (HS0.out.1 hs)
     clear hj hs hb4 HJ0 HS0 h3
     go_enter Tryz.func62, Tryz.ntmps62
     go_wp2_with (first
      | ((with_reducible refine at_box_ (d := 3) ?_); refine wpList_box_v (op := ⟨some 3, _, _, _, _, _⟩) rfl 88 _ rfl (layV f) rfl ?_; intro g3 v3b hf hr; replace HO := Lib.hid (HO.out.new hf hr); clear hf hr)
      | ((with_reducible refine at_alloc_ (d := 4) ?_); refine wpList_alloc_v (op := ⟨some 4, _, _, _, _, _⟩) rfl 44 rfl zon0 info_z ?_; intro g4 v4a hf hr; replace HO := Lib.hid (HO.out.new hf hr); clear hf hr)
      | ((with_reducible refine at_look_ (d := 13) ?_); refine wpList_look_m rfl _ _ rfl b n T rfl (HMP.out.on HO.out.bl) 4 (by decide) rfl ?_; rw [HV.out.1])
      | ((with_reducible refine at_load_ (d := 17) ?_); refine wpList_load_cg (by rfl) 3 _ rfl g3 3 rfl _ (((HO.out.row (i := 0) rfl).cell 3).trans HMX.out) Tryz.isAgg3 ?_)
      | ((with_reducible refine at_look_ (d := 23) ?_); refine wpList_look_m rfl _ _ rfl b n T rfl (HMP.out.on HO.out.bl) 3 (by decide) rfl ?_; rw [HV.out.2.1])
      | ((with_reducible refine at_look_ (d := 25) ?_); refine wpList_look_m rfl _ _ rfl b n T rfl (HMP.out.on HO.out.bl) 4 (by decide) rfl ?_; rw [HV.out.1])
      | ((with_reducible refine at_look_ (d := 27) ?_); refine wpList_look_m rfl _ _ rfl b n T rfl (HMP.out.on HO.out.bl) 11 (by decide) rfl ?_; rw [HV.out.2.2.1])
      | (go_at_call 99; ((with_reducible refine (HJ.out _ (HM.out.on HO.out.bl)).mono ?_); rintro e w9 ⟨rfl, hb⟩); replace HO := Lib.hid (HO.out.on hb); clear hb)
      | ((with_reducible refine at_look_ (d := 38) ?_); refine wpList_look_m rfl _ _ rfl b n T rfl (HMP.out.on HO.out.bl) 2 (by decide) rfl ?_; rw [HV.out.2.2.2])
      | (go_at_call 100; ((with_reducible refine (HSP.out _ (HM.out.on HO.out.bl)).mono ?_); rintro e w9 ⟨rfl, hb⟩); replace HO := Lib.hid (HO.out.on hb); clear hb))
     refine region_setC (by kernel_rfl) _ (fun (_ : Unit) i => ([.pointer (some ⟨g3, 0, none⟩), .int .i64 f, .map (some b), .string (S (T 0)), .string (S (trimT (T 0))), .map (some b), .string (S (T 1)), .string (S (trimT (T 1))), .string (S (spA (T 2))), .string (S (spB (T 2))), .string (S (jnN T)), .map (some b), .string (S (T 5)), .string (S (trimT (T 5))), .map (some b), .string (S (T 6)), .map (some b), .string (S (T 8)), .map (some b), .string (S (T 9)), .string (S (jnO T)), .map (some b), .string (S (T 13)), .string (S (trimT (T 13))), .agg (zV (zoZ f T)).toArray, undef, .int .i64 0] : List Value).getD i undef) (fun _ S cur => Own w cur [(g3, layV f), (g4, if S 25 = true then zV (zoZ f T) else zon0)]) (by kernel_rfl) () (HO.out.on (below_drewN _ _ 1)) ?_ ?_
     ·
      refine ops_all (allI.cons ?_ (allI.cons ?_ (allI.cons ?_ (allI.cons ?_ (allI.cons ?_ (allI.cons ?_ (allI.cons ?_ (allI.cons ?_ (allI.cons ?_ (allI.cons ?_ (allI.cons ?_ (allI.cons ?_ (allI.cons ?_ (allI.cons ?_ (allI.cons ?_ (allI.cons ?_ (allI.cons ?_ (allI.cons ?_ (allI.cons ?_ (allI.cons ?_ (allI.cons ?_ (allI.cons ?_ (allI.cons ?_ (allI.cons ?_ (allI.cons ?_ (allI.cons ?_ (allI.cons ?_ allI.nil))))))))))))))))))))))))))) <;> intro _ S cur a hW hSi hdep hS hC <;> refine ⟨(), fun _ _ => rfl, ?_⟩
      · exact o_fa _ (.tmp 3) 0 rfl (hS.before hC hSi 3 rfl) (fa_l0 g3 _) ⟨rfl, by simpa using hW⟩
      · exact o_ld _ (.tmp 48) rfl (hS.get 0 (dep_at hdep 0 rfl) rfl rfl) (((hW.row (i := 0) rfl).cell 0).trans HLF.out) Tryz.isAgg3 ⟨rfl, by simpa using hW⟩
      · exact o_mv (.tmp 0) rfl (hS.before hC hSi 0 rfl) ⟨rfl, by simpa using hW⟩
      · exact o_look (.tmp 50) _ rfl b n T (hS.get 2 (dep_at hdep 2 rfl) rfl rfl) (HMP.out.on hW.bl) 0 (by decide) rfl ⟨rfl, by simpa using hW⟩
      · exact o_call1 _ (.tmp 51) _ rfl (hS.get 3 (dep_at hdep 3 rfl) rfl rfl) (run_unf _ _) (HUN.out 0 (by decide) _) fun w' hb => ⟨rfl, by simpa using hW.on hb⟩
      · exact o_mv (.tmp 0) rfl (hS.before hC hSi 0 rfl) ⟨rfl, by simpa using hW⟩
      · exact o_look (.tmp 53) _ rfl b n T (hS.get 5 (dep_at hdep 5 rfl) rfl rfl) (HMP.out.on hW.bl) 1 (by decide) rfl ⟨rfl, by simpa using hW⟩
      · exact o_call1 _ (.tmp 54) _ rfl (hS.get 6 (dep_at hdep 6 rfl) rfl rfl) (run_unf _ _) (HUN.out 1 (by decide) _) fun w' hb => ⟨rfl, by simpa using hW.on hb⟩
      · exact o_mv (.tmp 9) rfl (hS.before hC hSi 9 rfl) ⟨rfl, by simpa using hW⟩
      · exact o_mv (.tmp 10) rfl (hS.before hC hSi 10 rfl) ⟨rfl, by simpa using hW⟩
      · exact o_mv (.tmp 6) rfl (hS.before hC hSi 6 rfl) ⟨rfl, by simpa using hW⟩
      · exact o_mv (.tmp 0) rfl (hS.before hC hSi 0 rfl) ⟨rfl, by simpa using hW⟩
      · exact o_look (.tmp 59) _ rfl b n T (hS.get 11 (dep_at hdep 11 rfl) rfl rfl) (HMP.out.on hW.bl) 5 (by decide) rfl ⟨rfl, by simpa using hW⟩
      · exact o_call1 _ (.tmp 60) _ rfl (hS.get 12 (dep_at hdep 12 rfl) rfl rfl) (run_unf _ _) (HUN.out 5 (by decide) _) fun w' hb => ⟨rfl, by simpa using hW.on hb⟩
      · exact o_mv (.tmp 0) rfl (hS.before hC hSi 0 rfl) ⟨rfl, by simpa using hW⟩
      · exact o_look (.tmp 62) _ rfl b n T (hS.get 14 (dep_at hdep 14 rfl) rfl rfl) (HMP.out.on hW.bl) 6 (by decide) rfl ⟨rfl, by simpa using hW⟩
      · exact o_mv (.tmp 0) rfl (hS.before hC hSi 0 rfl) ⟨rfl, by simpa using hW⟩
      · exact o_look (.tmp 64) _ rfl b n T (hS.get 16 (dep_at hdep 16 rfl) rfl rfl) (HMP.out.on hW.bl) 8 (by decide) rfl ⟨rfl, by simpa using hW⟩
      · exact o_mv (.tmp 0) rfl (hS.before hC hSi 0 rfl) ⟨rfl, by simpa using hW⟩
      · exact o_look (.tmp 66) _ rfl b n T (hS.get 18 (dep_at hdep 18 rfl) rfl rfl) (HMP.out.on hW.bl) 9 (by decide) rfl ⟨rfl, by simpa using hW⟩
      · exact o_mv (.tmp 7) rfl (hS.before hC hSi 7 rfl) ⟨rfl, by simpa using hW⟩
      · exact o_mv (.tmp 0) rfl (hS.before hC hSi 0 rfl) ⟨rfl, by simpa using hW⟩
      · exact o_look (.tmp 69) _ rfl b n T (hS.get 21 (dep_at hdep 21 rfl) rfl rfl) (HMP.out.on hW.bl) 13 (by decide) rfl ⟨rfl, by simpa using hW⟩
      · exact o_call1 _ (.tmp 70) _ rfl (hS.get 22 (dep_at hdep 22 rfl) rfl rfl) (run_unf _ _) (HUN.out 13 (by decide) _) fun w' hb => ⟨rfl, by simpa using hW.on hb⟩
      · exact o_build _ _ rfl (by simp only [List.map_toArray, List.map_cons, List.map_nil, (hS.get 1 (dep_at hdep 1 rfl) rfl rfl), (hS.get 4 (dep_at hdep 4 rfl) rfl rfl), (hS.get 7 (dep_at hdep 7 rfl) rfl rfl), (hS.get 8 (dep_at hdep 8 rfl) rfl rfl), (hS.get 9 (dep_at hdep 9 rfl) rfl rfl), (hS.get 10 (dep_at hdep 10 rfl) rfl rfl), (hS.get 13 (dep_at hdep 13 rfl) rfl rfl), (hS.get 15 (dep_at hdep 15 rfl) rfl rfl), (hS.get 17 (dep_at hdep 17 rfl) rfl rfl), (hS.get 19 (dep_at hdep 19 rfl) rfl rfl), (hS.get 20 (dep_at hdep 20 rfl) rfl rfl), (hS.get 23 (dep_at hdep 23 rfl) rfl rfl)]; rfl) (build_z _ _ _ _ _ _ _ _ _ _ _ _ _) ⟨rfl, by simpa using hW⟩
      · rw [hSi] at hW
        replace hW : Own w cur [(g3, layV f), (g4, zon0)] := hW
        refine wp_store_v 44 (.tmp 4) (.tmp 72) rfl g4 zon0 (zV (zoZ f T)) (hS.before hC hSi 4 rfl) (hS.get 24 (dep_at hdep 24 rfl) rfl rfl) (hW.row (i := 1) rfl) rfl (zV_one _) size_z ?_
        intro w' hw hr
        exact ⟨rfl, by simpa using hW.set (i := 1) rfl hw hr⟩
      · exact o_as _ rfl rfl ⟨rfl, by simpa using hW⟩
     · intro _ cur S hall hW
       rw [hall 25 (by decide)] at hW
       replace hW : Own w cur [(g3, layV f), (g4, zV (zoZ f T))] := hW
       simp only [putAll, Act.put]
       simp
       have HW := Lib.hid hW
       go_wp2
       exact bodyPost_ret (results_v1 rfl _ _ g4 (zV (zoZ f T)) _ rfl (HW.out.row (i := 1) rfl) Tryz.underlying44 rfl size_z) rfl ⟨by rw [zn_val, HE.out.2, HE.out.1]; rfl, HW.out.bl⟩
    ·
     skip
     obtain ⟨sp, hsp⟩ : ∃ sp, spE (T 2) = sp := ⟨_, rfl⟩
     have hne : sp ≠ 0 := by rw [← hsp]; exact hs
     have HE : Hid (zoE f T = sp ∧ zV (zoV f T) = zon0) := Lib.hid (by
      have h1 : zoE f T = sp := by unfold zoE; rw [if_neg (fun h => h3 h.2), if_neg (by rw [hj]; decide)]; exact hsp
      refine ⟨h1, ?_⟩
      unfold zoV
      rw [h1, if_neg hne]
      rfl)
     have n1 : (sp == 0) = false := by simpa using hne
     have HJ := Lib.hid (HJ0.out.1 hj)
     have HSP := Lib.hid (HS0.out.2 sp hsp)
     clear hj hs hb4 hsp HJ0 HS0 h3
     go_enter Tryz.func62, Tryz.ntmps62
     go_wp2_with (first
      | ((with_reducible refine at_box_ (d := 3) ?_); refine wpList_box_v (op := ⟨some 3, _, _, _, _, _⟩) rfl 88 _ rfl (layV f) rfl ?_; intro g3 v3b hf hr; replace HO := Lib.hid (HO.out.new hf hr); clear hf hr)
      | ((with_reducible refine at_alloc_ (d := 4) ?_); refine wpList_alloc_v (op := ⟨some 4, _, _, _, _, _⟩) rfl 44 rfl zon0 info_z ?_; intro g4 v4a hf hr; replace HO := Lib.hid (HO.out.new hf hr); clear hf hr)
      | ((with_reducible refine at_look_ (d := 13) ?_); refine wpList_look_m rfl _ _ rfl b n T rfl (HMP.out.on HO.out.bl) 4 (by decide) rfl ?_; rw [HV.out.1])
      | ((with_reducible refine at_load_ (d := 17) ?_); refine wpList_load_cg (by rfl) 3 _ rfl g3 3 rfl _ (((HO.out.row (i := 0) rfl).cell 3).trans HMX.out) Tryz.isAgg3 ?_)
      | ((with_reducible refine at_look_ (d := 23) ?_); refine wpList_look_m rfl _ _ rfl b n T rfl (HMP.out.on HO.out.bl) 3 (by decide) rfl ?_; rw [HV.out.2.1])
      | ((with_reducible refine at_look_ (d := 25) ?_); refine wpList_look_m rfl _ _ rfl b n T rfl (HMP.out.on HO.out.bl) 4 (by decide) rfl ?_; rw [HV.out.1])
      | ((with_reducible refine at_look_ (d := 27) ?_); refine wpList_look_m rfl _ _ rfl b n T rfl (HMP.out.on HO.out.bl) 11 (by decide) rfl ?_; rw [HV.out.2.2.1])
      | (go_at_call 99; ((with_reducible refine (HJ.out _ (HM.out.on HO.out.bl)).mono ?_); rintro e w9 ⟨rfl, hb⟩); replace HO := Lib.hid (HO.out.on hb); clear hb)
      | ((with_reducible refine at_look_ (d := 38) ?_); refine wpList_look_m rfl _ _ rfl b n T rfl (HMP.out.on HO.out.bl) 2 (by decide) rfl ?_; rw [HV.out.2.2.2])
      | (go_at_call 100; ((with_reducible refine (HSP.out _ (HM.out.on HO.out.bl)).mono ?_); rintro e w9 ⟨rfl, hb⟩); replace HO := Lib.hid (HO.out.on hb); clear hb)
      | ((with_reducible refine at_store_ (i := 4) ?_); refine wpList_store_v rfl 44 (.tmp 4) (.tmp 46) rfl g4 zon0 zon0 rfl rfl (HO.out.row (i := 1) rfl) rfl (zV_one _) size_z ?_; intro v4s hw hr; replace HO := Lib.hid (HO.out.set (i := 1) rfl hw hr); clear hw hr))
     exact bodyPost_ret (results_v1 rfl _ _ g4 zon0 _ rfl (HO.out.row (i := 1) rfl) Tryz.underlying44 rfl size_z) rfl ⟨by rw [zn_val, HE.out.2, HE.out.1]; rfl, HO.out.bl⟩
   ·
    skip
    obtain ⟨j, hjj⟩ : ∃ j, jnE T = j := ⟨_, rfl⟩
    have hne : j ≠ 0 := by rw [← hjj]; exact hj
    have HE : Hid (zoE f T = j ∧ zV (zoV f T) = zon0) := Lib.hid (by
     have h1 : zoE f T = j := by unfold zoE; rw [if_neg (fun h => h3 h.2), if_pos hj]; exact hjj
     refine ⟨h1, ?_⟩
     unfold zoV
     rw [h1, if_neg hne]
     rfl)
    have n1 : (j == 0) = false := by simpa using hne
    have HJ := Lib.hid (HJ0.out.2 j hjj)
    clear hj hb4 hjj HJ0 HS0 h3
    go_enter Tryz.func62, Tryz.ntmps62
    go_wp2_with (first
     | ((with_reducible refine at_box_ (d := 3) ?_); refine wpList_box_v (op := ⟨some 3, _, _, _, _, _⟩) rfl 88 _ rfl (layV f) rfl ?_; intro g3 v3b hf hr; replace HO := Lib.hid (HO.out.new hf hr); clear hf hr)
     | ((with_reducible refine at_alloc_ (d := 4) ?_); refine wpList_alloc_v (op := ⟨some 4, _, _, _, _, _⟩) rfl 44 rfl zon0 info_z ?_; intro g4 v4a hf hr; replace HO := Lib.hid (HO.out.new hf hr); clear hf hr)
     | ((with_reducible refine at_look_ (d := 13) ?_); refine wpList_look_m rfl _ _ rfl b n T rfl (HMP.out.on HO.out.bl) 4 (by decide) rfl ?_; rw [HV.out.1])
     | ((with_reducible refine at_load_ (d := 17) ?_); refine wpList_load_cg (by rfl) 3 _ rfl g3 3 rfl _ (((HO.out.row (i := 0) rfl).cell 3).trans HMX.out) Tryz.isAgg3 ?_)
     | ((with_reducible refine at_look_ (d := 23) ?_); refine wpList_look_m rfl _ _ rfl b n T rfl (HMP.out.on HO.out.bl) 3 (by decide) rfl ?_; rw [HV.out.2.1])
     | ((with_reducible refine at_look_ (d := 25) ?_); refine wpList_look_m rfl _ _ rfl b n T rfl (HMP.out.on HO.out.bl) 4 (by decide) rfl ?_; rw [HV.out.1])
     | ((with_reducible refine at_look_ (d := 27) ?_); refine wpList_look_m rfl _ _ rfl b n T rfl (HMP.out.on HO.out.bl) 11 (by decide) rfl ?_; rw [HV.out.2.2.1])
     | (go_at_call 99; ((with_reducible refine (HJ.out _ (HM.out.on HO.out.bl)).mono ?_); rintro e w9 ⟨rfl, hb⟩); replace HO := Lib.hid (HO.out.on hb); clear hb)
     | ((with_reducible refine at_store_ (i := 4) ?_); refine wpList_store_v rfl 44 (.tmp 4) (.tmp 34) rfl g4 zon0 zon0 rfl rfl (HO.out.row (i := 1) rfl) rfl (zV_one _) size_z ?_; intro v4s hw hr; replace HO := Lib.hid (HO.out.set (i := 1) rfl hw hr); clear hw hr))
    exact bodyPost_ret (results_v1 rfl _ _ g4 zon0 _ rfl (HO.out.row (i := 1) rfl) Tryz.underlying44 rfl size_z) rfl ⟨by rw [zn_val, HE.out.2, HE.out.1]; rfl, HO.out.bl⟩
theorem any_inv (ls : List (List UInt8)) : ls.any (fun x => !validL x) = !allV ls := by
 unfold allV
 rw [List.all_eq_not_any_not]
 simp
theorem lines_le {f : Int} {ls : List (List UInt8)} (hf : 1 ≤ f ∧ f ≤ 3) (h : LinesOf f ls) : ∀ x ∈ ls, x.length ≤ 44 := by
 intro x hx
 obtain ⟨i, hi, rfl⟩ := List.getElem_of_mem hx
 have h1 := h.2 i (by rw [← h.1]; exact hi)
 rw [List.getD_eq_getElem?_getD, List.getElem?_eq_getElem hi] at h1
 have hw : widN f ≤ 44 := by unfold widN; repeat (first | omega | split)
 simp only [Option.getD_some] at h1
 omega
theorem fd_le {f : Int} {ls : List (List UInt8)} (hf : 1 ≤ f ∧ f ≤ 3) (h : LinesOf f ls) (k : Nat) : (fd f ls k).length ≤ 44 := by
 unfold fd subL
 rw [List.length_take, List.length_drop]
 have h1 : (ls.getD (plc f k).1 []).length ≤ 44 := by
  rw [List.getD_eq_getElem?_getD]
  rcases hq : ls[(plc f k).1]? with _ | x
  · simp
  · exact lines_le hf h x (List.mem_of_getElem? hq)
 omega
theorem trim_le (x : List UInt8) : (trimT x).length ≤ x.length := trim_len x
theorem cut_le (x s : List UInt8) : (Lib.cut x s).1.length ≤ x.length ∧ (Lib.cut x s).2.1.length ≤ x.length := by
 unfold Lib.cut
 split
 · constructor
   · show (x.take _).length ≤ _
     rw [List.length_take]; omega
   · show (x.drop _).length ≤ _
     rw [List.length_drop]; omega
 · exact ⟨Nat.le_refl _, Nat.zero_le _⟩
theorem bears_of {f : Int} {T : Nat → List UInt8} (h : ∀ k, (T k).length ≤ 44) : Bears (zoZ f T) := by
 have t := fun k => Nat.le_trans (trim_le (T k)) (h k)
 have sA : (spA (T 2)).length ≤ 44 := by
  unfold spA
  split
  · unfold surL; rw [exL_length]; exact Nat.le_trans (cut_le _ _).1 (t 2)
  · simp
 have sB : (spB (T 2)).length ≤ 44 := by
  unfold spB
  split
  · unfold givL; rw [exL_length]; exact Nat.le_trans (cut_le _ _).2 (t 2)
  · simp
 have nN : (jnN T).length ≤ 88 := by
  unfold jnN jN
  have h3 := h 3
  have h11 := h 11
  have t3 := t 3
  split
  · omega
  · rw [List.length_append, List.length_take]; omega
 have nO : (jnO T).length ≤ 88 := by
  unfold jnO jO
  have h11 := h 11
  have t11 := t 11
  split
  · omega
  · have h1 := trim_le ((T 11).drop (kf (T 11) + 1))
    rw [List.length_drop] at h1
    omega
 refine ⟨?_, ?_, ?_, ?_, ?_, ?_, ?_, ?_, ?_, ?_, ?_⟩ <;> rw [S_size]
 · have := t 0; show (trimT (T 0)).length ≤ _; omega
 · have := t 1; show (trimT (T 1)).length ≤ _; omega
 · show (spA (T 2)).length ≤ _; omega
 · show (spB (T 2)).length ≤ _; omega
 · show (jnN T).length ≤ _; omega
 · have := t 5; show (trimT (T 5)).length ≤ _; omega
 · have := h 6; show (T 6).length ≤ _; omega
 · have := h 8; show (T 8).length ≤ _; omega
 · have := h 9; show (T 9).length ≤ _; omega
 · show (jnO T).length ≤ _; omega
 · have := t 13; show (trimT (T 13)).length ≤ _; omega
set_option maxHeartbeats 3200000 in
set_option maxRecDepth 20000 in
theorem p_zparse (ls : List (List UInt8)) (A : Option Addr) (c : Nat) (hl : ls.length ≤ 10000000000000) (w : World) (hM : Mm w) (hs : Strs w A ls) :
 Calls Tryz.prog 28 #[.slice A ls.length c] w fun e w' => e = .returned (.tuple #[(parZ ls).val, .int .i64 (parE ls)]) ∧ Below w.heap.size w w' := by
 have HM := Lib.hid hM
 have HS := Lib.hid hs
 have HL := Lib.hid hl
 obtain ⟨n, hn⟩ : ∃ n, ls.length = n := ⟨_, rfl⟩
 have HN := Lib.hid hn
 have HL0 : Hid (∀ w, Strs w A ls → Calls Tryz.prog 57 #[.slice A n c] w fun e w' => e = .returned (.tuple #[.agg (lfV ls).toArray, .bool (lfB ls)]) ∧ Below w.heap.size w w') := Lib.hid (fun w hs => by rw [← hn]; exact p_lfor ls A c hl w hs)
 have HO := Lib.hid (Own.start w)
 rw [hn]
 clear hM hs hl hn
 by_cases hsh : shapeL ls = 0
 ·
  skip
  have HE : Hid (parE ls = 2 ∧ zV (parZ ls) = zon0) := Lib.hid (by
   have h1 : parE ls = 2 := by unfold parE; rw [if_pos hsh]
   refine ⟨h1, ?_⟩
   unfold parZ
   rw [h1, if_neg (by decide)]
   rfl)
  have HLF : Hid (∀ w, Strs w A ls → Calls Tryz.prog 57 #[.slice A n c] w fun e w' => e = .returned (.tuple #[.agg lay0.toArray, .bool false]) ∧ Below w.heap.size w w') := Lib.hid (fun w hs => by have h1 := HL0.out w hs; rw [(lf_no hsh).1, (lf_no hsh).2] at h1; exact h1)
  clear hsh
  go_enter Tryz.func28, Tryz.ntmps28
  go_wp2_with (first
   | ((with_reducible refine at_alloc_ (d := 2) ?_); refine wpList_alloc_v (op := ⟨some 2, _, _, _, _, _⟩) rfl 44 rfl zon0 info_z ?_; intro g2 v2a hf hr; replace HO := Lib.hid (HO.out.new hf hr); clear hf hr)
   | ((with_reducible refine at_alloc_ (d := 4) ?_); refine wpList_alloc_v (op := ⟨some 4, _, _, _, _, _⟩) rfl 88 rfl lay0 info_l ?_; intro g4 v4a hf hr; replace HO := Lib.hid (HO.out.new hf hr); clear hf hr)
   | (go_at_call 57; ((with_reducible refine (HLF.out _ (HS.out.on HO.out.bl)).mono ?_); rintro e w5 ⟨rfl, hb⟩); replace HO := Lib.hid (HO.out.on hb); clear hb)
   | ((with_reducible refine at_store_ (i := 4) ?_); refine wpList_store_v rfl 88 (.tmp 4) (.tmp 14) rfl g4 lay0 (lay0) rfl rfl (HO.out.row (i := 1) rfl) rfl lay0_one size_l ?_; intro v4s hw hr; replace HO := Lib.hid (HO.out.set (i := 1) rfl hw hr); clear hw hr)
   | ((with_reducible refine at_store_ (i := 2) ?_); refine wpList_store_v rfl 44 (.tmp 2) (.tmp 18) rfl g2 zon0 zon0 rfl rfl (HO.out.row (i := 0) rfl) rfl (zV_one _) size_z ?_; intro v2s hw hr; replace HO := Lib.hid (HO.out.set (i := 0) rfl hw hr); clear hw hr))
  exact bodyPost_ret (results_v1 rfl _ _ g2 zon0 _ rfl (HO.out.row (i := 0) rfl) Tryz.underlying44 rfl size_z) rfl ⟨by rw [zn_val, HE.out.2, HE.out.1]; rfl, HO.out.bl⟩
 ·
  obtain ⟨f, hff⟩ : ∃ f, shapeL ls = f := ⟨_, rfl⟩
  have hf : 1 ≤ f ∧ f ≤ 3 := by have := shape_range ls; omega
  have HF := Lib.hid hf
  have hli : LinesOf f ls := (shape_of hf).2 hff
  have HLI := Lib.hid hli
  have HFF := Lib.hid hff
  have HSL : Hid ((Tryz.prog.info? 88).map (·.size) = some (layV f).length) := Lib.hid (by rw [layV_len hf]; exact size_l)
  have HLF : Hid (∀ w, Strs w A ls → Calls Tryz.prog 57 #[.slice A n c] w fun e w' => e = .returned (.tuple #[.agg (layV f).toArray, .bool true]) ∧ Below w.heap.size w w') := Lib.hid (fun w hs => by have h1 := HL0.out w hs; rw [(lf_is hf hff).1, (lf_is hf hff).2] at h1; exact h1)
  have hlen : ∀ x ∈ ls, x.length ≤ 44 := lines_le hf hli
  have hpv : ∀ x ∈ ls, ∀ b, (!validL x) = b → ∀ w, (Calls Tryz.prog 58 #[.string (S x)] w fun e w' => e = .returned (.bool b) ∧ w = w') := fun x hx b hb w => p_par1 x (by rw [S_size]; have := hlen x hx; unfold maxLen; omega) b hb w
  have hp0 : parE ls = if allV ls = false then 12 else if digsB f (fd f ls) = false ∨ fd f ls 14 ≠ dgL (cmpT f ls) then 13 else if zoE f (fd f ls) ≠ 0 then zoE f (fd f ls) else vE (zoZ f (fd f ls)) := by unfold parE; rw [if_neg hsh, hff]
  have hpz : parZ ls = if parE ls = 0 then zoZ f (fd f ls) else Zn.zero := by unfold parZ; rw [hff]
  obtain ⟨T, hT⟩ : ∃ T, fd f ls = T := ⟨_, rfl⟩
  rw [hT] at hp0 hpz
  have hTz : ∀ k, (T k).length ≤ 44 := fun k => by rw [← hT]; exact fd_le hf hli k
  have HTZ := Lib.hid hTz
  have HRD : Hid (∀ w, Strs w A ls → Calls Tryz.prog 59 #[.agg (layV f).toArray, .slice A n c] w fun e w' => ∃ b, e = .returned (.map (some b)) ∧ Below w.heap.size w w' ∧ w.heap.size ≤ b ∧ MapIs w' b 15 T) := Lib.hid (fun w hs => by rw [← HN.out, ← hT]; exact p_read f hf A c ls w hs hli)
  have HCM : Hid (∀ w, Mm w → Strs w A ls → Calls Tryz.prog 61 #[.agg (layV f).toArray, .slice A n c] w fun e w' => e = .returned (.string (S (dgL (cmpT f ls)))) ∧ Below w.heap.size w w') := Lib.hid (fun w hM hs => by rw [← HN.out]; exact p_comp f hf A c ls w hM hs hli)
  clear hsh hff hT hlen hf hli
  by_cases hav : allV ls = false
  ·
   skip
   have HE : Hid (parE ls = 12 ∧ zV (parZ ls) = zon0) := Lib.hid (by
    have h1 : parE ls = 12 := by rw [hp0, if_pos hav]
    refine ⟨h1, ?_⟩
    unfold parZ
    rw [h1, if_neg (by decide)]
    rfl)
   have HCF : Hid (∀ w, Strs w A ls → Calls Tryz.prog 38 #[.slice A n c, .func (.func 58) #[] #[]] w fun e w' => e = .returned (.bool true) ∧ w = w') := Lib.hid (fun w hs => p_cfp ls A c n HN.out HL.out w hs true (by rw [any_inv, hav]; rfl) hpv)
   clear hav hp0 hpz hpv
   go_enter Tryz.func28, Tryz.ntmps28
   go_wp2_with (first
    | ((with_reducible refine at_alloc_ (d := 2) ?_); refine wpList_alloc_v (op := ⟨some 2, _, _, _, _, _⟩) rfl 44 rfl zon0 info_z ?_; intro g2 v2a hf hr; replace HO := Lib.hid (HO.out.new hf hr); clear hf hr)
    | ((with_reducible refine at_alloc_ (d := 4) ?_); refine wpList_alloc_v (op := ⟨some 4, _, _, _, _, _⟩) rfl 88 rfl lay0 info_l ?_; intro g4 v4a hf hr; replace HO := Lib.hid (HO.out.new hf hr); clear hf hr)
    | (go_at_call 57; ((with_reducible refine (HLF.out _ (HS.out.on HO.out.bl)).mono ?_); rintro e w5 ⟨rfl, hb⟩); replace HO := Lib.hid (HO.out.on hb); clear hb)
    | ((with_reducible refine at_store_ (i := 4) ?_); refine wpList_store_v rfl 88 (.tmp 4) (.tmp 14) rfl g4 lay0 (layV f) rfl rfl (HO.out.row (i := 1) rfl) (by rw [layV_len HF.out]; rfl) (layR_one _ _ _) HSL.out ?_; intro v4s hw hr; replace HO := Lib.hid (HO.out.set (i := 1) rfl hw hr); clear hw hr)
    | (go_at_call 38; ((with_reducible refine (HCF.out _ (HS.out.on HO.out.bl)).mono ?_); rintro e w9 ⟨rfl, rfl⟩))
    | ((with_reducible refine at_store_ (i := 2) ?_); refine wpList_store_v rfl 44 (.tmp 2) (.tmp 22) rfl g2 zon0 zon0 rfl rfl (HO.out.row (i := 0) rfl) rfl (zV_one _) size_z ?_; intro v2s hw hr; replace HO := Lib.hid (HO.out.set (i := 0) rfl hw hr); clear hw hr))
   exact bodyPost_ret (results_v1 rfl _ _ g2 zon0 _ rfl (HO.out.row (i := 0) rfl) Tryz.underlying44 rfl size_z) rfl ⟨by rw [zn_val, HE.out.2, HE.out.1]; rfl, HO.out.bl⟩
  ·
   have hav2 : allV ls = true := by simpa using hav
   have HCF : Hid (∀ w, Strs w A ls → Calls Tryz.prog 38 #[.slice A n c, .func (.func 58) #[] #[]] w fun e w' => e = .returned (.bool false) ∧ w = w') := Lib.hid (fun w hs => p_cfp ls A c n HN.out HL.out w hs false (by rw [any_inv, hav2]; rfl) hpv)
   rw [if_neg hav] at hp0
   clear hav hav2 hpv
   obtain ⟨V14, hV14⟩ : ∃ V, S (T 14) = V := ⟨_, rfl⟩
   obtain ⟨D, hD⟩ : ∃ D, S (dgL (cmpT f ls)) = D := ⟨_, rfl⟩
   have he14 : (V14.toList == D.toList) = decide (T 14 = dgL (cmpT f ls)) := by rw [← hV14, ← hD, S_toList, S_toList, Bool.eq_iff_iff]; simp
   rw [hD] at HCM
   have HV14 := Lib.hid hV14
   clear hV14 hD
   have hdm : ∀ (r : Bool), digsB f T = r → (∀ w (b : Nat), Mm w → MapIs w b 15 T → Calls Tryz.prog 60 #[.map (some b), .agg (layV f).toArray] w fun e w' => e = .returned (.bool r) ∧ Below w.heap.size w w') := fun r hr w b hM hm => by rw [← hr]; exact p_dm f HF.out b 15 T w hM hm (fun k hk => by rw [S_size]; have := HTZ.out k; omega)
   rcases hdg : digsB f T with _ | _
   ·
    skip
    have HE : Hid (parE ls = 13 ∧ zV (parZ ls) = zon0) := Lib.hid (by
     have h1 : parE ls = 13 := by rw [hp0, if_pos (.inl hdg)]
     refine ⟨h1, ?_⟩
     unfold parZ
     rw [h1, if_neg (by decide)]
     rfl)
    have HDM := Lib.hid (hdm false hdg)
    clear hdg hdm hp0 hpz he14
    go_enter Tryz.func28, Tryz.ntmps28
    go_wp2_with (first
     | ((with_reducible refine at_alloc_ (d := 2) ?_); refine wpList_alloc_v (op := ⟨some 2, _, _, _, _, _⟩) rfl 44 rfl zon0 info_z ?_; intro g2 v2a hf hr; replace HO := Lib.hid (HO.out.new hf hr); clear hf hr)
     | ((with_reducible refine at_alloc_ (d := 4) ?_); refine wpList_alloc_v (op := ⟨some 4, _, _, _, _, _⟩) rfl 88 rfl lay0 info_l ?_; intro g4 v4a hf hr; replace HO := Lib.hid (HO.out.new hf hr); clear hf hr)
     | (go_at_call 57; ((with_reducible refine (HLF.out _ (HS.out.on HO.out.bl)).mono ?_); rintro e w5 ⟨rfl, hb⟩); replace HO := Lib.hid (HO.out.on hb); clear hb)
     | ((with_reducible refine at_store_ (i := 4) ?_); refine wpList_store_v rfl 88 (.tmp 4) (.tmp 14) rfl g4 lay0 (layV f) rfl rfl (HO.out.row (i := 1) rfl) (by rw [layV_len HF.out]; rfl) (layR_one _ _ _) HSL.out ?_; intro v4s hw hr; replace HO := Lib.hid (HO.out.set (i := 1) rfl hw hr); clear hw hr)
     | (go_at_call 38; ((with_reducible refine (HCF.out _ (HS.out.on HO.out.bl)).mono ?_); rintro e w9 ⟨rfl, rfl⟩))
     | ((with_reducible refine at_load_ (d := 23) ?_); refine wpList_load_v (op := ⟨some 23, _, _, _, _, _⟩) rfl 88 _ rfl g4 rfl (layV f) _ (HO.out.row (i := 1) rfl) Tryz.underlying88 rfl HSL.out ?_)
     | (go_at_call 59; ((with_reducible refine (HRD.out _ (HS.out.on HO.out.bl)).mono ?_); rintro e w6 ⟨bm, rfl, hb, hge, hmp⟩); have HP := Lib.hid (OwnM.add HO.out hb hge hmp); clear hb hge hmp HO))
    have qdm := HP.out.1.qup fun w' hb => HDM.out w' bm ((HM.out.on HP.out.bl).on hb) (HP.out.2.1.on hb)
    have lL := Lib.hid ((HP.out.1.row (i := 1) rfl).up)
    refine wp_region_quiet_below (by kernel_rfl) (by kernel_rfl) ?_
    repeat (first | ((with_reducible refine at_qload_ (d := 27) ?_); refine quiet_load_v rfl _ _ rfl g4 rfl (layV f) _ lL.out Tryz.underlying88 rfl HSL.out ?_) | go_big_quiet_skip | (go_big_quiet_want; go_big_quiet_op; go_big_quiet_on) | quiet_step (first | with_reducible exact qdm _ _))
    refine wpQuiet_nil ?_
    intro w7 hw7
    replace HP := Lib.hid (HP.out.on (below_of_regrown hw7))
    clear hw7 qdm lL
    have HO2 := Lib.hid HP.out.1
    go_wp2_with (first
     | ((with_reducible refine at_store_ (i := 2) ?_); refine wpList_store_v rfl 44 (.tmp 2) (.tmp 38) rfl g2 zon0 zon0 rfl rfl (HO2.out.row (i := 0) rfl) rfl (zV_one _) size_z ?_; intro v2s hw hr; replace HO2 := Lib.hid (HO2.out.set (i := 0) rfl hw hr); clear hw hr))
    exact bodyPost_ret (results_v1 rfl _ _ g2 zon0 _ rfl (HO2.out.row (i := 0) rfl) Tryz.underlying44 rfl size_z) rfl ⟨by rw [zn_val, HE.out.2, HE.out.1]; rfl, HO2.out.bl⟩
   ·
    have HDM := Lib.hid (hdm true hdg)
    clear hdm
    by_cases h14 : T 14 = dgL (cmpT f ls)
    ·
     have e14 : (V14.toList == D.toList) = true := he14.trans (by simpa using h14)
     rw [if_neg (by rw [hdg]; simp [h14])] at hp0
     clear hdg h14 he14
     have hzo := fun (w : World) (b : Nat) (hM : Mm w) (hm : MapIs w b 15 T) => p_zo f HF.out b 15 T w hM hm (fun k hk => by rw [S_size]; have := HTZ.out k; omega)
     by_cases hz0 : zoE f T = 0
     ·
      rw [if_neg (by rw [hz0]; decide)] at hp0
      have hzv : zoV f T = zoZ f T := by unfold zoV; rw [if_pos hz0]
      obtain ⟨us, hus⟩ : ∃ us, zV (zoZ f T) = us := ⟨_, rfl⟩
      have HZO : Hid (∀ w (b : Nat), Mm w → MapIs w b 15 T → Calls Tryz.prog 62 #[.map (some b), .agg (layV f).toArray] w fun e w' => e = .returned (.tuple #[.agg us.toArray, .int .i64 0]) ∧ Below w.heap.size w w') := Lib.hid (fun w b hM hm => by have h1 := hzo w b hM hm; rw [hz0, zn_val, hzv, hus] at h1; exact h1)
      have HUL : Hid (us.length = zon0.length ∧ (∀ u ∈ us, u.oneCell' = true) ∧ (Tryz.prog.info? 44).map (·.size) = some us.length) := Lib.hid (by rw [← hus]; exact ⟨rfl, zV_one _, size_z⟩)
      have hbe : Bears (zoZ f T) := bears_of HTZ.out
      by_cases hv : vE (zoZ f T) = 0
      ·
       have HE : Hid (parE ls = 0 ∧ zV (parZ ls) = us) := Lib.hid (by
        have h1 : parE ls = 0 := hp0.trans hv
        exact ⟨h1, by rw [hpz, if_pos h1]; exact hus⟩)
       have HVA : Hid (∀ w, Mm w → Calls Tryz.prog 63 #[.agg us.toArray] w fun e w' => e = .returned (.int .i64 0) ∧ Below w.heap.size w w') := Lib.hid (fun w hM => p_zvalidB _ 0 hv us hus hbe w hM)
       clear hzo hz0 hzv hus hbe hv hp0 hpz
       go_enter Tryz.func28, Tryz.ntmps28
       go_wp2_with (first
        | ((with_reducible refine at_alloc_ (d := 2) ?_); refine wpList_alloc_v (op := ⟨some 2, _, _, _, _, _⟩) rfl 44 rfl zon0 info_z ?_; intro g2 v2a hf hr; replace HO := Lib.hid (HO.out.new hf hr); clear hf hr)
        | ((with_reducible refine at_alloc_ (d := 4) ?_); refine wpList_alloc_v (op := ⟨some 4, _, _, _, _, _⟩) rfl 88 rfl lay0 info_l ?_; intro g4 v4a hf hr; replace HO := Lib.hid (HO.out.new hf hr); clear hf hr)
        | (go_at_call 57; ((with_reducible refine (HLF.out _ (HS.out.on HO.out.bl)).mono ?_); rintro e w5 ⟨rfl, hb⟩); replace HO := Lib.hid (HO.out.on hb); clear hb)
        | ((with_reducible refine at_store_ (i := 4) ?_); refine wpList_store_v rfl 88 (.tmp 4) (.tmp 14) rfl g4 lay0 (layV f) rfl rfl (HO.out.row (i := 1) rfl) (by rw [layV_len HF.out]; rfl) (layR_one _ _ _) HSL.out ?_; intro v4s hw hr; replace HO := Lib.hid (HO.out.set (i := 1) rfl hw hr); clear hw hr)
        | (go_at_call 38; ((with_reducible refine (HCF.out _ (HS.out.on HO.out.bl)).mono ?_); rintro e w9 ⟨rfl, rfl⟩))
        | ((with_reducible refine at_load_ (d := 23) ?_); refine wpList_load_v (op := ⟨some 23, _, _, _, _, _⟩) rfl 88 _ rfl g4 rfl (layV f) _ (HO.out.row (i := 1) rfl) Tryz.underlying88 rfl HSL.out ?_)
        | (go_at_call 59; ((with_reducible refine (HRD.out _ (HS.out.on HO.out.bl)).mono ?_); rintro e w6 ⟨bm, rfl, hb, hge, hmp⟩); have HP := Lib.hid (OwnM.add HO.out hb hge hmp); clear hb hge hmp HO))
       have qdm := HP.out.1.qup fun w' hb => HDM.out w' bm ((HM.out.on HP.out.bl).on hb) (HP.out.2.1.on hb)
       have qcm := HP.out.1.qup fun w' hb => HCM.out w' ((HM.out.on HP.out.bl).on hb) ((HS.out.on HP.out.bl).on hb)
       have ql : ∀ (d : Nat) (os : Array Obj), (Instr.lookup mT (.map (some bm)) (.int .i64 14) false).run Tryz.prog (Go.Sort.grow (redrawn w6 d) os) = .ok (.string V14) (Go.Sort.grow (redrawn w6 d) os) := fun d os => by rw [← HV14.out]; exact HP.out.2.1.qlook (k := 14) (by decide) d os
       have lL := Lib.hid ((HP.out.1.row (i := 1) rfl).up)
       refine wp_region_quiet_below (by kernel_rfl) (by kernel_rfl) ?_
       repeat (first | ((with_reducible refine at_qload_ (d := 27) ?_); refine quiet_load_v rfl _ _ rfl g4 rfl (layV f) _ lL.out Tryz.underlying88 rfl HSL.out ?_) | ((with_reducible refine at_qload_ (d := 33) ?_); refine quiet_load_v rfl _ _ rfl g4 rfl (layV f) _ lL.out Tryz.underlying88 rfl HSL.out ?_) | go_big_quiet_skip | (go_big_quiet_want; go_big_quiet_op; go_big_quiet_on) | quiet_step (first | with_reducible exact qdm _ _ | with_reducible exact qcm _ _))
       refine wpQuiet_nil ?_
       intro w7 hw7
       replace HP := Lib.hid (HP.out.on (below_of_regrown hw7))
       clear hw7 qdm lL qcm ql
       have HO2 := Lib.hid HP.out.1
       have HPM := Lib.hid HP.out.2.1
       go_wp2_with (first
        | ((with_reducible refine at_load_ (d := 41) ?_); refine wpList_load_v (op := ⟨some 41, _, _, _, _, _⟩) rfl 88 _ rfl g4 rfl (layV f) _ (HO2.out.row (i := 1) rfl) Tryz.underlying88 rfl HSL.out ?_)
        | (go_at_call 62; ((with_reducible refine (HZO.out _ bm (HM.out.on HO2.out.bl) HPM.out).mono ?_); rintro e w8 ⟨rfl, hb⟩); replace HO2 := Lib.hid (HO2.out.on hb); clear hb)
        | ((with_reducible refine at_alloc_ (d := 8) ?_); refine wpList_alloc_v (op := ⟨some 8, _, _, _, _, _⟩) rfl 44 rfl zon0 info_z ?_; intro g8 v8a hf hr; replace HO2 := Lib.hid (HO2.out.new hf hr); clear hf hr)
        | ((with_reducible refine at_store_ (i := 8) ?_); refine wpList_store_v rfl 44 (.tmp 8) (.tmp 43) rfl g8 zon0 us rfl rfl (HO2.out.row (i := 2) rfl) HUL.out.1 HUL.out.2.1 HUL.out.2.2 ?_; intro v8s hw hr; replace HO2 := Lib.hid (HO2.out.set (i := 2) rfl hw hr); clear hw hr)
        | ((with_reducible refine at_load_ (d := 49) ?_); refine wpList_load_v (op := ⟨some 49, _, _, _, _, _⟩) rfl 44 _ rfl g8 rfl us _ (HO2.out.row (i := 2) rfl) Tryz.underlying44 rfl HUL.out.2.2 ?_)
        | (go_at_call 63; ((with_reducible refine (HVA.out _ (HM.out.on HO2.out.bl)).mono ?_); rintro e w9 ⟨rfl, hb⟩); replace HO2 := Lib.hid (HO2.out.on hb); clear hb)
        | ((with_reducible refine at_load_ (d := 55) ?_); refine wpList_load_v (op := ⟨some 55, _, _, _, _, _⟩) rfl 44 _ rfl g8 rfl us _ (HO2.out.row (i := 2) rfl) Tryz.underlying44 rfl HUL.out.2.2 ?_)
        | ((with_reducible refine at_store_ (i := 2) ?_); refine wpList_store_v rfl 44 (.tmp 2) (.tmp 55) rfl g2 zon0 us rfl rfl (HO2.out.row (i := 0) rfl) HUL.out.1 HUL.out.2.1 HUL.out.2.2 ?_; intro v2s hw hr; replace HO2 := Lib.hid (HO2.out.set (i := 0) rfl hw hr); clear hw hr))
       exact bodyPost_ret (results_v1 rfl _ _ g2 us _ rfl (HO2.out.row (i := 0) rfl) Tryz.underlying44 rfl HUL.out.2.2) rfl ⟨by rw [zn_val, HE.out.2, HE.out.1]; rfl, HO2.out.bl⟩
      ·
       obtain ⟨v, hvv⟩ : ∃ v, vE (zoZ f T) = v := ⟨_, rfl⟩
       have hne : v ≠ 0 := by rw [← hvv]; exact hv
       have HE : Hid (parE ls = v ∧ zV (parZ ls) = zon0) := Lib.hid (by
        have h1 : parE ls = v := hp0.trans hvv
        refine ⟨h1, ?_⟩
        unfold parZ
        rw [h1, if_neg hne]
        rfl)
       have HVA : Hid (∀ w, Mm w → Calls Tryz.prog 63 #[.agg us.toArray] w fun e w' => e = .returned (.int .i64 v) ∧ Below w.heap.size w w') := Lib.hid (fun w hM => p_zvalidB _ v hvv us hus hbe w hM)
       have n1 : (v == 0) = false := by simpa using hne
       clear hzo hz0 hzv hus hbe hv hvv hp0 hpz
       go_enter Tryz.func28, Tryz.ntmps28
       go_wp2_with (first
        | ((with_reducible refine at_alloc_ (d := 2) ?_); refine wpList_alloc_v (op := ⟨some 2, _, _, _, _, _⟩) rfl 44 rfl zon0 info_z ?_; intro g2 v2a hf hr; replace HO := Lib.hid (HO.out.new hf hr); clear hf hr)
        | ((with_reducible refine at_alloc_ (d := 4) ?_); refine wpList_alloc_v (op := ⟨some 4, _, _, _, _, _⟩) rfl 88 rfl lay0 info_l ?_; intro g4 v4a hf hr; replace HO := Lib.hid (HO.out.new hf hr); clear hf hr)
        | (go_at_call 57; ((with_reducible refine (HLF.out _ (HS.out.on HO.out.bl)).mono ?_); rintro e w5 ⟨rfl, hb⟩); replace HO := Lib.hid (HO.out.on hb); clear hb)
        | ((with_reducible refine at_store_ (i := 4) ?_); refine wpList_store_v rfl 88 (.tmp 4) (.tmp 14) rfl g4 lay0 (layV f) rfl rfl (HO.out.row (i := 1) rfl) (by rw [layV_len HF.out]; rfl) (layR_one _ _ _) HSL.out ?_; intro v4s hw hr; replace HO := Lib.hid (HO.out.set (i := 1) rfl hw hr); clear hw hr)
        | (go_at_call 38; ((with_reducible refine (HCF.out _ (HS.out.on HO.out.bl)).mono ?_); rintro e w9 ⟨rfl, rfl⟩))
        | ((with_reducible refine at_load_ (d := 23) ?_); refine wpList_load_v (op := ⟨some 23, _, _, _, _, _⟩) rfl 88 _ rfl g4 rfl (layV f) _ (HO.out.row (i := 1) rfl) Tryz.underlying88 rfl HSL.out ?_)
        | (go_at_call 59; ((with_reducible refine (HRD.out _ (HS.out.on HO.out.bl)).mono ?_); rintro e w6 ⟨bm, rfl, hb, hge, hmp⟩); have HP := Lib.hid (OwnM.add HO.out hb hge hmp); clear hb hge hmp HO))
       have qdm := HP.out.1.qup fun w' hb => HDM.out w' bm ((HM.out.on HP.out.bl).on hb) (HP.out.2.1.on hb)
       have qcm := HP.out.1.qup fun w' hb => HCM.out w' ((HM.out.on HP.out.bl).on hb) ((HS.out.on HP.out.bl).on hb)
       have ql : ∀ (d : Nat) (os : Array Obj), (Instr.lookup mT (.map (some bm)) (.int .i64 14) false).run Tryz.prog (Go.Sort.grow (redrawn w6 d) os) = .ok (.string V14) (Go.Sort.grow (redrawn w6 d) os) := fun d os => by rw [← HV14.out]; exact HP.out.2.1.qlook (k := 14) (by decide) d os
       have lL := Lib.hid ((HP.out.1.row (i := 1) rfl).up)
       refine wp_region_quiet_below (by kernel_rfl) (by kernel_rfl) ?_
       repeat (first | ((with_reducible refine at_qload_ (d := 27) ?_); refine quiet_load_v rfl _ _ rfl g4 rfl (layV f) _ lL.out Tryz.underlying88 rfl HSL.out ?_) | ((with_reducible refine at_qload_ (d := 33) ?_); refine quiet_load_v rfl _ _ rfl g4 rfl (layV f) _ lL.out Tryz.underlying88 rfl HSL.out ?_) | go_big_quiet_skip | (go_big_quiet_want; go_big_quiet_op; go_big_quiet_on) | quiet_step (first | with_reducible exact qdm _ _ | with_reducible exact qcm _ _))
       refine wpQuiet_nil ?_
       intro w7 hw7
       replace HP := Lib.hid (HP.out.on (below_of_regrown hw7))
       clear hw7 qdm lL qcm ql
       have HO2 := Lib.hid HP.out.1
       have HPM := Lib.hid HP.out.2.1
       go_wp2_with (first
        | ((with_reducible refine at_load_ (d := 41) ?_); refine wpList_load_v (op := ⟨some 41, _, _, _, _, _⟩) rfl 88 _ rfl g4 rfl (layV f) _ (HO2.out.row (i := 1) rfl) Tryz.underlying88 rfl HSL.out ?_)
        | (go_at_call 62; ((with_reducible refine (HZO.out _ bm (HM.out.on HO2.out.bl) HPM.out).mono ?_); rintro e w8 ⟨rfl, hb⟩); replace HO2 := Lib.hid (HO2.out.on hb); clear hb)
        | ((with_reducible refine at_alloc_ (d := 8) ?_); refine wpList_alloc_v (op := ⟨some 8, _, _, _, _, _⟩) rfl 44 rfl zon0 info_z ?_; intro g8 v8a hf hr; replace HO2 := Lib.hid (HO2.out.new hf hr); clear hf hr)
        | ((with_reducible refine at_store_ (i := 8) ?_); refine wpList_store_v rfl 44 (.tmp 8) (.tmp 43) rfl g8 zon0 us rfl rfl (HO2.out.row (i := 2) rfl) HUL.out.1 HUL.out.2.1 HUL.out.2.2 ?_; intro v8s hw hr; replace HO2 := Lib.hid (HO2.out.set (i := 2) rfl hw hr); clear hw hr)
        | ((with_reducible refine at_load_ (d := 49) ?_); refine wpList_load_v (op := ⟨some 49, _, _, _, _, _⟩) rfl 44 _ rfl g8 rfl us _ (HO2.out.row (i := 2) rfl) Tryz.underlying44 rfl HUL.out.2.2 ?_)
        | (go_at_call 63; ((with_reducible refine (HVA.out _ (HM.out.on HO2.out.bl)).mono ?_); rintro e w9 ⟨rfl, hb⟩); replace HO2 := Lib.hid (HO2.out.on hb); clear hb)
        | ((with_reducible refine at_store_ (i := 2) ?_); refine wpList_store_v rfl 44 (.tmp 2) (.tmp 53) rfl g2 zon0 zon0 rfl rfl (HO2.out.row (i := 0) rfl) rfl (zV_one _) size_z ?_; intro v2s hw hr; replace HO2 := Lib.hid (HO2.out.set (i := 0) rfl hw hr); clear hw hr))
       exact bodyPost_ret (results_v1 rfl _ _ g2 zon0 _ rfl (HO2.out.row (i := 0) rfl) Tryz.underlying44 rfl size_z) rfl ⟨by rw [zn_val, HE.out.2, HE.out.1]; rfl, HO2.out.bl⟩
     ·
      obtain ⟨v, hvv⟩ : ∃ v, zoE f T = v := ⟨_, rfl⟩
      have hne : v ≠ 0 := by rw [← hvv]; exact hz0
      have HE : Hid (parE ls = v ∧ zV (parZ ls) = zon0) := Lib.hid (by
       have h1 : parE ls = v := by rw [hp0, if_pos hz0]; exact hvv
       refine ⟨h1, ?_⟩
       unfold parZ
       rw [h1, if_neg hne]
       rfl)
      obtain ⟨us, hus⟩ : ∃ us, zV (zoV f T) = us := ⟨_, rfl⟩
      have HZO : Hid (∀ w (b : Nat), Mm w → MapIs w b 15 T → Calls Tryz.prog 62 #[.map (some b), .agg (layV f).toArray] w fun e w' => e = .returned (.tuple #[.agg us.toArray, .int .i64 v]) ∧ Below w.heap.size w w') := Lib.hid (fun w b hM hm => by have h1 := hzo w b hM hm; rw [hvv, zn_val, hus] at h1; exact h1)
      have HUL : Hid (us.length = zon0.length ∧ (∀ u ∈ us, u.oneCell' = true) ∧ (Tryz.prog.info? 44).map (·.size) = some us.length) := Lib.hid (by rw [← hus]; exact ⟨rfl, zV_one _, size_z⟩)
      have n1 : (v == 0) = false := by simpa using hne
      clear hzo hz0 hus hvv hp0 hpz
      go_enter Tryz.func28, Tryz.ntmps28
      go_wp2_with (first
       | ((with_reducible refine at_alloc_ (d := 2) ?_); refine wpList_alloc_v (op := ⟨some 2, _, _, _, _, _⟩) rfl 44 rfl zon0 info_z ?_; intro g2 v2a hf hr; replace HO := Lib.hid (HO.out.new hf hr); clear hf hr)
       | ((with_reducible refine at_alloc_ (d := 4) ?_); refine wpList_alloc_v (op := ⟨some 4, _, _, _, _, _⟩) rfl 88 rfl lay0 info_l ?_; intro g4 v4a hf hr; replace HO := Lib.hid (HO.out.new hf hr); clear hf hr)
       | (go_at_call 57; ((with_reducible refine (HLF.out _ (HS.out.on HO.out.bl)).mono ?_); rintro e w5 ⟨rfl, hb⟩); replace HO := Lib.hid (HO.out.on hb); clear hb)
       | ((with_reducible refine at_store_ (i := 4) ?_); refine wpList_store_v rfl 88 (.tmp 4) (.tmp 14) rfl g4 lay0 (layV f) rfl rfl (HO.out.row (i := 1) rfl) (by rw [layV_len HF.out]; rfl) (layR_one _ _ _) HSL.out ?_; intro v4s hw hr; replace HO := Lib.hid (HO.out.set (i := 1) rfl hw hr); clear hw hr)
       | (go_at_call 38; ((with_reducible refine (HCF.out _ (HS.out.on HO.out.bl)).mono ?_); rintro e w9 ⟨rfl, rfl⟩))
       | ((with_reducible refine at_load_ (d := 23) ?_); refine wpList_load_v (op := ⟨some 23, _, _, _, _, _⟩) rfl 88 _ rfl g4 rfl (layV f) _ (HO.out.row (i := 1) rfl) Tryz.underlying88 rfl HSL.out ?_)
       | (go_at_call 59; ((with_reducible refine (HRD.out _ (HS.out.on HO.out.bl)).mono ?_); rintro e w6 ⟨bm, rfl, hb, hge, hmp⟩); have HP := Lib.hid (OwnM.add HO.out hb hge hmp); clear hb hge hmp HO))
      have qdm := HP.out.1.qup fun w' hb => HDM.out w' bm ((HM.out.on HP.out.bl).on hb) (HP.out.2.1.on hb)
      have qcm := HP.out.1.qup fun w' hb => HCM.out w' ((HM.out.on HP.out.bl).on hb) ((HS.out.on HP.out.bl).on hb)
      have ql : ∀ (d : Nat) (os : Array Obj), (Instr.lookup mT (.map (some bm)) (.int .i64 14) false).run Tryz.prog (Go.Sort.grow (redrawn w6 d) os) = .ok (.string V14) (Go.Sort.grow (redrawn w6 d) os) := fun d os => by rw [← HV14.out]; exact HP.out.2.1.qlook (k := 14) (by decide) d os
      have lL := Lib.hid ((HP.out.1.row (i := 1) rfl).up)
      refine wp_region_quiet_below (by kernel_rfl) (by kernel_rfl) ?_
      repeat (first | ((with_reducible refine at_qload_ (d := 27) ?_); refine quiet_load_v rfl _ _ rfl g4 rfl (layV f) _ lL.out Tryz.underlying88 rfl HSL.out ?_) | ((with_reducible refine at_qload_ (d := 33) ?_); refine quiet_load_v rfl _ _ rfl g4 rfl (layV f) _ lL.out Tryz.underlying88 rfl HSL.out ?_) | go_big_quiet_skip | (go_big_quiet_want; go_big_quiet_op; go_big_quiet_on) | quiet_step (first | with_reducible exact qdm _ _ | with_reducible exact qcm _ _))
      refine wpQuiet_nil ?_
      intro w7 hw7
      replace HP := Lib.hid (HP.out.on (below_of_regrown hw7))
      clear hw7 qdm lL qcm ql
      have HO2 := Lib.hid HP.out.1
      have HPM := Lib.hid HP.out.2.1
      go_wp2_with (first
       | ((with_reducible refine at_load_ (d := 41) ?_); refine wpList_load_v (op := ⟨some 41, _, _, _, _, _⟩) rfl 88 _ rfl g4 rfl (layV f) _ (HO2.out.row (i := 1) rfl) Tryz.underlying88 rfl HSL.out ?_)
       | (go_at_call 62; ((with_reducible refine (HZO.out _ bm (HM.out.on HO2.out.bl) HPM.out).mono ?_); rintro e w8 ⟨rfl, hb⟩); replace HO2 := Lib.hid (HO2.out.on hb); clear hb)
       | ((with_reducible refine at_alloc_ (d := 8) ?_); refine wpList_alloc_v (op := ⟨some 8, _, _, _, _, _⟩) rfl 44 rfl zon0 info_z ?_; intro g8 v8a hf hr; replace HO2 := Lib.hid (HO2.out.new hf hr); clear hf hr)
       | ((with_reducible refine at_store_ (i := 8) ?_); refine wpList_store_v rfl 44 (.tmp 8) (.tmp 43) rfl g8 zon0 us rfl rfl (HO2.out.row (i := 2) rfl) HUL.out.1 HUL.out.2.1 HUL.out.2.2 ?_; intro v8s hw hr; replace HO2 := Lib.hid (HO2.out.set (i := 2) rfl hw hr); clear hw hr)
       | ((with_reducible refine at_store_ (i := 2) ?_); refine wpList_store_v rfl 44 (.tmp 2) (.tmp 47) rfl g2 zon0 zon0 rfl rfl (HO2.out.row (i := 0) rfl) rfl (zV_one _) size_z ?_; intro v2s hw hr; replace HO2 := Lib.hid (HO2.out.set (i := 0) rfl hw hr); clear hw hr))
      exact bodyPost_ret (results_v1 rfl _ _ g2 zon0 _ rfl (HO2.out.row (i := 0) rfl) Tryz.underlying44 rfl size_z) rfl ⟨by rw [zn_val, HE.out.2, HE.out.1]; rfl, HO2.out.bl⟩
    ·
     have e14 : (V14.toList == D.toList) = false := he14.trans (by simpa using h14)
     have HE : Hid (parE ls = 13 ∧ zV (parZ ls) = zon0) := Lib.hid (by
      have h1 : parE ls = 13 := by rw [hp0, if_pos (.inr h14)]
      refine ⟨h1, ?_⟩
      unfold parZ
      rw [h1, if_neg (by decide)]
      rfl)
     clear hdg h14 he14 hp0 hpz
     go_enter Tryz.func28, Tryz.ntmps28
     go_wp2_with (first
      | ((with_reducible refine at_alloc_ (d := 2) ?_); refine wpList_alloc_v (op := ⟨some 2, _, _, _, _, _⟩) rfl 44 rfl zon0 info_z ?_; intro g2 v2a hf hr; replace HO := Lib.hid (HO.out.new hf hr); clear hf hr)
      | ((with_reducible refine at_alloc_ (d := 4) ?_); refine wpList_alloc_v (op := ⟨some 4, _, _, _, _, _⟩) rfl 88 rfl lay0 info_l ?_; intro g4 v4a hf hr; replace HO := Lib.hid (HO.out.new hf hr); clear hf hr)
      | (go_at_call 57; ((with_reducible refine (HLF.out _ (HS.out.on HO.out.bl)).mono ?_); rintro e w5 ⟨rfl, hb⟩); replace HO := Lib.hid (HO.out.on hb); clear hb)
      | ((with_reducible refine at_store_ (i := 4) ?_); refine wpList_store_v rfl 88 (.tmp 4) (.tmp 14) rfl g4 lay0 (layV f) rfl rfl (HO.out.row (i := 1) rfl) (by rw [layV_len HF.out]; rfl) (layR_one _ _ _) HSL.out ?_; intro v4s hw hr; replace HO := Lib.hid (HO.out.set (i := 1) rfl hw hr); clear hw hr)
      | (go_at_call 38; ((with_reducible refine (HCF.out _ (HS.out.on HO.out.bl)).mono ?_); rintro e w9 ⟨rfl, rfl⟩))
      | ((with_reducible refine at_load_ (d := 23) ?_); refine wpList_load_v (op := ⟨some 23, _, _, _, _, _⟩) rfl 88 _ rfl g4 rfl (layV f) _ (HO.out.row (i := 1) rfl) Tryz.underlying88 rfl HSL.out ?_)
      | (go_at_call 59; ((with_reducible refine (HRD.out _ (HS.out.on HO.out.bl)).mono ?_); rintro e w6 ⟨bm, rfl, hb, hge, hmp⟩); have HP := Lib.hid (OwnM.add HO.out hb hge hmp); clear hb hge hmp HO))
     have qdm := HP.out.1.qup fun w' hb => HDM.out w' bm ((HM.out.on HP.out.bl).on hb) (HP.out.2.1.on hb)
     have qcm := HP.out.1.qup fun w' hb => HCM.out w' ((HM.out.on HP.out.bl).on hb) ((HS.out.on HP.out.bl).on hb)
     have ql : ∀ (d : Nat) (os : Array Obj), (Instr.lookup mT (.map (some bm)) (.int .i64 14) false).run Tryz.prog (Go.Sort.grow (redrawn w6 d) os) = .ok (.string V14) (Go.Sort.grow (redrawn w6 d) os) := fun d os => by rw [← HV14.out]; exact HP.out.2.1.qlook (k := 14) (by decide) d os
     have lL := Lib.hid ((HP.out.1.row (i := 1) rfl).up)
     refine wp_region_quiet_below (by kernel_rfl) (by kernel_rfl) ?_
     repeat (first | ((with_reducible refine at_qload_ (d := 27) ?_); refine quiet_load_v rfl _ _ rfl g4 rfl (layV f) _ lL.out Tryz.underlying88 rfl HSL.out ?_) | ((with_reducible refine at_qload_ (d := 33) ?_); refine quiet_load_v rfl _ _ rfl g4 rfl (layV f) _ lL.out Tryz.underlying88 rfl HSL.out ?_) | go_big_quiet_skip | (go_big_quiet_want; go_big_quiet_op; go_big_quiet_on) | quiet_step (first | with_reducible exact qdm _ _ | with_reducible exact qcm _ _))
     refine wpQuiet_nil ?_
     intro w7 hw7
     replace HP := Lib.hid (HP.out.on (below_of_regrown hw7))
     clear hw7 qdm lL qcm ql
     have HO2 := Lib.hid HP.out.1
     have HPM := Lib.hid HP.out.2.1
     go_wp2_with (first
      | ((with_reducible refine at_store_ (i := 2) ?_); refine wpList_store_v rfl 44 (.tmp 2) (.tmp 38) rfl g2 zon0 zon0 rfl rfl (HO2.out.row (i := 0) rfl) rfl (zV_one _) size_z ?_; intro v2s hw hr; replace HO2 := Lib.hid (HO2.out.set (i := 0) rfl hw hr); clear hw hr))
     exact bodyPost_ret (results_v1 rfl _ _ g2 zon0 _ rfl (HO2.out.row (i := 0) rfl) Tryz.underlying44 rfl size_z) rfl ⟨by rw [zn_val, HE.out.2, HE.out.1]; rfl, HO2.out.bl⟩
end Go.Proofs.YtibahbkjjfmbgaaGreatDoor
