/-
  What is proved here: the texts of a zone's fields, as the program puts them into a map, in whatever order it does so.
-/
import Derived.Test.YtibahbkjjfmbgaaGreatDoorUY3
import Derived.Test.YtibahbkjjfmbgaaGreatDoorUQ8
import Derived.Test.YtibahbkjjfmbgaaGreatDoorUY2
import Derived.Test.YtibahbkjjfmbgaaGreatDoorUZb
import Derived.Test.YtibahbkjjfmbgaaGreatDoorUY1
namespace Go.Proofs.YtibahbkjjfmbgaaGreatDoor
open Go.RowKit Go.Maps
set_option linter.unusedVariables false
def zV (z : Zn) : List Value := [.int .i64 z.fm, .string (S z.kd), .string (S z.st), .string (S z.su), .string (S z.gi), .string (S z.nu), .string (S z.na), .string (S z.bi), .string (S z.sx), .string (S z.ex), .string (S z.op), .string (S z.se)]
theorem fa_z7 (g : Nat) (w : World) : (Instr.fieldAt 44 (.pointer (some ⟨g, 0, none⟩)) 7).run Tryz.prog w = .ok (.pointer (some ⟨g, 7, none⟩)) w := by kernel_rfl
theorem fa_z9 (g : Nat) (w : World) : (Instr.fieldAt 44 (.pointer (some ⟨g, 0, none⟩)) 9).run Tryz.prog w = .ok (.pointer (some ⟨g, 9, none⟩)) w := by kernel_rfl
def cntS (S : Nat → Bool) : Nat → Nat
 | 0 => 0
 | m + 1 => cntS S m + if S m then 1 else 0
theorem cnt_mono {S S' : Nat → Bool} (h : ∀ j, S j = true → S' j = true) : ∀ m, cntS S m ≤ cntS S' m
 | 0 => Nat.le_refl _
 | m + 1 => by
  have := cnt_mono h m
  unfold cntS
  by_cases e : S m = true
  · rw [if_pos e, if_pos (h m e)]; omega
  · rw [if_neg e]; omega
theorem cnt_out {S : Nat → Bool} {i : Nat} : ∀ m, m ≤ i → cntS (fun j => S j || j == i) m = cntS S m
 | 0, _ => rfl
 | m + 1, h => by
  have hm : m ≠ i := by omega
  unfold cntS
  rw [cnt_out m (by omega)]
  simp [hm]
theorem cnt_add {S : Nat → Bool} {i : Nat} (hS : S i = false) : ∀ m, i < m → cntS (fun j => S j || j == i) m = cntS S m + 1
 | 0, h => by omega
 | m + 1, h => by
  unfold cntS
  by_cases e : m = i
  · subst e
    rw [cnt_out m (Nat.le_refl _), hS]
    simp
  · rw [cnt_add hS m (by omega)]
    simp [e]
    omega
def InsW (w : World) (L : List (Nat × List Value)) (T : Nat → List UInt8) (ins : Nat → Nat) (g : Nat) (S : Nat → Bool) (cur : World) : Prop :=
 Own w cur L ∧ (S 0 = true → ∃ n, n ≤ cntS S 40 ∧ OwnM w cur L g n (fun k => if ins k < 40 ∧ S (ins k) = true then T k else []))
theorem OwnM.from {w cur : World} {L : List (Nat × List Value)} {b n : Nat} {T T' : Nat → List UInt8} (h : OwnM w cur L b n T) (e : T = T') : OwnM w cur L b n T' := e ▸ h
section
variable {w cur cur' : World} {L : List (Nat × List Value)} {T : Nat → List UInt8} {ins : Nat → Nat} {g i : Nat} {S : Nat → Bool}
theorem InsW.skip (h : InsW w L T ins g S cur) (hb : Below cur.heap.size cur cur') (h0 : i ≠ 0) (hi : ∀ k, k < 15 → ins k ≠ i) : InsW w L T ins g (fun j => S j || j == i) cur' := by
 refine ⟨h.1.on hb, fun hs => ?_⟩
 have hs' : S 0 = true := by simpa [Ne.symm h0] using hs
 obtain ⟨n, hn, ho⟩ := h.2 hs'
 refine ⟨n, Nat.le_trans hn (cnt_mono (fun j hj => by simp [hj]) 40), (ho.on hb).ext fun k hk => ?_⟩
 have := hi k hk
 simp [this]
theorem InsW.mk (h : InsW w L T ins g S cur) (h0 : S 0 = false) (hi : ∀ k, k < 15 → ins k < 40 → S (ins k) = false ∧ ins k ≠ 0) : InsW w L T ins cur.heap.size (fun j => S j || j == 0) (cur.alloc (.map #[] 0)) := by
 have hf : Fresh cur (cur.alloc (.map #[] 0)) cur.heap.size := ⟨rfl, _, rfl⟩
 refine ⟨h.1.on hf.bw, fun _ => ⟨0, Nat.zero_le _, (OwnM.start h.1 hf (MapIs.made cur)).ext fun k hk => ?_⟩⟩
 by_cases h40 : ins k < 40
 · have := hi k hk h40
   simp [this]
 · simp [h40]
theorem InsW.put {k : Nat} (h : InsW w L T ins g S cur) (h0 : S 0 = true) (hk : k < 15) (hik : ins k = i) (h40 : i < 40) (hSi : S i = false) (hinj : ∀ j, j < 15 → j ≠ k → ins j ≠ i) (hi0 : i ≠ 0) {n : Nat} (hn : n ≤ cntS S 40) (ho : OwnM w cur L g n (fun k => if ins k < 40 ∧ S (ins k) = true then T k else []))
 (hm : MapIs cur' g (n + 1) (updT (fun k => if ins k < 40 ∧ S (ins k) = true then T k else []) k (T k))) (hg : cur.grownBy cur' (some g)) : InsW w L T ins g (fun j => S j || j == i) cur' := by
 have h1 := ho.upd hm hg
 refine ⟨h1.1, fun _ => ⟨n + 1, by rw [cnt_add hSi 40 h40]; omega, h1.ext fun j hj => ?_⟩⟩
 unfold updT
 by_cases e : j = k
 · subst e
   rw [if_pos rfl, if_pos]
   rw [hik]
   exact ⟨h40, by simp⟩
 · rw [if_neg e]
   have := hinj j hj e
   simp [this]
end
section
variable {a : Act} {w w' : World} {K : Act → World → Prop} {Q : Exit → Act → World → Prop} {o : Oper}
theorem o_call1 {P : Program} (f : FuncId) (x : Operand) (tys : Array TypeId) (ho : o.op = .call { callee := .value (.func f), args := #[x], argTypes := tys }) {v1 v : Value} (hx : a.eval x = v1) (hr : (callFunc f #[v1]).run P w = .ok (.enter f #[v1]) w)
 (h : Calls P f #[v1] w fun e w' => e = .returned v ∧ Below w.heap.size w w') (hK : ∀ w', Below w.heap.size w w' → K (a.put o.dst v) w') : o.wp P a w K Q := by
 have he : a.eval (.func f) = Value.func (.func f) #[] #[] := rfl
 have h1 : (execOp a.eval o).run P w = .ok (.enter f #[v1]) w := by
  simp [execOp, ho, resolve, invoke, hx, he, hr, Deferred.ofValue]
 unfold Oper.wp
 rw [h1, Oper.upon_enter]
 refine h.mono ?_
 rintro e w' ⟨rfl, hb⟩
 exact hK w' hb
end
structure Fits (z : Zn) : Prop where
 fm : 1 ≤ z.fm ∧ z.fm ≤ 3
 nm : nameL z.su = true ∧ nameL z.gi = true ∧ z.su ≠ []
 su : (S z.su).size ≤ 140737488355328
 gi : (S z.gi).size ≤ 140737488355328
 kd : z.kd.length ≤ 64
 st : z.st.length ≤ 64
 nu : z.nu.length ≤ 64
 na : z.na.length ≤ 64
 bi : z.bi.length ≤ 64
 sx : z.sx.length ≤ 64
 ex : z.ex.length ≤ 64
 op : z.op.length ≤ 64
 se : z.se.length ≤ 64
theorem dgL_le (x : List UInt8) : (dgL x).length ≤ 1 := by have := dgL_len x; rwa [S_size] at this
structure Bears (z : Zn) : Prop where
 kd : (S z.kd).size ≤ 140737488355328
 st : (S z.st).size ≤ 140737488355328
 su : (S z.su).size ≤ 140737488355328
 gi : (S z.gi).size ≤ 140737488355328
 nu : (S z.nu).size ≤ 140737488355328
 na : (S z.na).size ≤ 140737488355328
 bi : (S z.bi).size ≤ 140737488355328
 sx : (S z.sx).size ≤ 140737488355328
 ex : (S z.ex).size ≤ 140737488355328
 op : (S z.op).size ≤ 140737488355328
 se : (S z.se).size ≤ 140737488355328
def fitB (f : Int) (z : Zn) : Bool := decide ((dvC z.nu z.op).length ≤ sizN f 11) && decide (z.se.length ≤ sizN f 13)
theorem siz_le {f : Int} (h : 1 ≤ f ∧ f ≤ 3) {k : Nat} (hk : k < 15) : sizN f k ≤ 44 := by
 have := plc_ok h hk
 have hw : widN f ≤ 44 := by unfold widN; repeat (first | omega | split)
 unfold sizN; omega
theorem dvC_len (x y : List UInt8) : (dvC x y).length ≤ x.length + y.length + 2 := by
 have := dgL_le x
 unfold dvC
 split
 · simp; omega
 · omega
set_option maxHeartbeats 1600000 in
set_option maxRecDepth 20000 in
theorem p_fit (f : Int) (hf : 1 ≤ f ∧ f ≤ 3) (z : Zn) (hz : Bears z) (w : World) (hM : Mm w) :
 Calls Tryz.prog 109 #[z.val, .agg (layV f).toArray] w fun e w' => e = .returned (.bool (fitB f z)) ∧ Below w.heap.size w w' := by
 have HM := Lib.hid hM
 have HZ := Lib.hid hz
 have HF := Lib.hid hf
 have s1 := siz_le hf (k := 11) (by decide)
 have s2 := siz_le hf (k := 13) (by decide)
 obtain ⟨R, hR⟩ : ∃ R, S (dvC z.nu z.op) = R := ⟨_, rfl⟩
 have hRz : R.size ≤ 281474976710658 := by
  have h1 := hz.nu; have h2 := hz.op; have h3 := dvC_len z.nu z.op
  rw [S_size] at h1 h2
  rw [← hR, S_size]; omega
 have HR := Lib.hid hR
 obtain ⟨n1, hn1⟩ : ∃ n1, sizN f 11 = n1 := ⟨_, rfl⟩
 obtain ⟨n2, hn2⟩ : ∃ n2, sizN f 13 = n2 := ⟨_, rfl⟩
 obtain ⟨E, hE⟩ : ∃ E, S z.se = E := ⟨_, rfl⟩
 have hEz : E.size ≤ 140737488355328 := by rw [← hE]; exact hz.se
 have HFB : Hid (fitB f z = (decide (R.size ≤ n1) && decide (E.size ≤ n2))) := Lib.hid (by unfold fitB; rw [← hR, ← hE, S_size, S_size, hn1, hn2])
 have psz1 : ∀ w, Calls Tryz.prog 97 #[.agg (layV f).toArray, .int .i64 11] w fun e w' => e = .returned (.int .i64 (n1 : Int)) ∧ Below w.heap.size w w' := fun w => by rw [← hn1]; exact p_size f hf 11 (by decide) w
 have psz2 : ∀ w, Calls Tryz.prog 97 #[.agg (layV f).toArray, .int .i64 13] w fun e w' => e = .returned (.int .i64 (n2 : Int)) ∧ Below w.heap.size w w' := fun w => by rw [← hn2]; exact p_size f hf 13 (by decide) w
 rw [hn1] at s1
 rw [hn2] at s2
 have HP := Lib.hid (show _ ∧ _ from ⟨psz1, psz2⟩)
 clear hM hz hf hn1 hn2 hR psz1 psz2
 have HO := Lib.hid (Own.start w)
 have e0 : z.val = .agg (zV z).toArray := rfl
 obtain ⟨us, hus⟩ : ∃ us, zV z = us := ⟨_, rfl⟩
 rw [e0, hus]
 have HU : Hid (us[5]? = some (.string (S z.nu)) ∧ us[10]? = some (.string (S z.op)) ∧ us[11]? = some (.string E)) := Lib.hid (by rw [← hus, ← hE]; exact ⟨rfl, rfl, rfl⟩)
 clear e0 hus hE
 go_enter Tryz.func109, Tryz.ntmps109
 go_wp2_with (first
  | ((with_reducible refine at_box_ (d := 2) ?_); refine wpList_box_v (op := ⟨some 2, _, _, _, _, _⟩) rfl 44 _ rfl us rfl ?_; intro g2 v2b hf hr; replace HO := Lib.hid (HO.out.new hf hr); clear hf hr)
  | ((with_reducible refine at_box_ (d := 3) ?_); refine wpList_box_v (op := ⟨some 3, _, _, _, _, _⟩) rfl 88 _ rfl (layV f) rfl ?_; intro g3 v3b hf hr; replace HO := Lib.hid (HO.out.new hf hr); clear hf hr)
  | ((with_reducible refine at_load_ (d := 10) ?_); refine wpList_load_c (op := ⟨some 10, _, _, _, _, _⟩) rfl 9 _ rfl g2 5 rfl _ (((HO.out.row (i := 0) rfl).cell 5).trans HU.out.1) Tryz.isAgg9 ?_)
  | ((with_reducible refine at_load_ (d := 12) ?_); refine wpList_load_c (op := ⟨some 12, _, _, _, _, _⟩) rfl 9 _ rfl g2 10 rfl _ (((HO.out.row (i := 0) rfl).cell 10).trans HU.out.2.1) Tryz.isAgg9 ?_)
  | (go_at_call 140; ((with_reducible refine (p_divide (S z.nu) (S z.op) z.nu z.op rfl rfl _ HZ.out.nu HZ.out.op (HM.out.on HO.out.bl)).mono ?_); rintro e w5 ⟨rfl, hb⟩); rw [HR.out]; replace HO := Lib.hid (HO.out.on hb); clear hb))
 have q1 := quiet_up (w := w5) fun w' hb => HP.out.1 w'
 have q2 := quiet_up (w := w5) fun w' hb => HP.out.2 w'
 have l11 := (HO.out.row (i := 0) rfl).quiet (k := 11) HU.out.2.2
 have lL := Lib.hid ((HO.out.row (i := 1) rfl).up)
 have HSL : Hid ((Tryz.prog.info? 88).map (·.size) = some (layV f).length) := Lib.hid (by rw [layV_len HF.out]; exact size_l)
 by_cases h : (R.size : Int) ≤ (n1 : Int)
 · have hd : decide ((R.size : Int) ≤ (n1 : Int)) = true := by simpa using h
   refine wp_region_quiet_below (by kernel_rfl) (by kernel_rfl) ?_
   repeat (first | ((with_reducible refine at_qload_ (d := 19) ?_); refine quiet_load_v rfl _ _ rfl g3 rfl (layV f) _ lL.out Tryz.underlying88 rfl HSL.out ?_) | ((with_reducible refine at_qload_ (d := 26) ?_); refine quiet_load_v rfl _ _ rfl g3 rfl (layV f) _ lL.out Tryz.underlying88 rfl HSL.out ?_) | go_big_quiet_skip | (go_big_quiet_want; go_big_quiet_op; go_big_quiet_on) | quiet_step (first | with_reducible exact q1 _ _ | with_reducible exact q2 _ _))
   refine wpQuiet_nil ?_
   intro w6 hw6
   replace HO := Lib.hid (HO.out.on (below_of_regrown hw6))
   clear hw6 q1 q2 l11 lL
   go_wp2
   go_ret
   refine ⟨?_, HO.out.bl⟩
   rw [HFB.out, decide_eq_true (show R.size ≤ n1 by omega)]
   rfl
 · have hd : decide ((R.size : Int) ≤ (n1 : Int)) = false := by simpa using h
   refine wp_region_quiet_below (by kernel_rfl) (by kernel_rfl) ?_
   repeat (first | ((with_reducible refine at_qload_ (d := 19) ?_); refine quiet_load_v rfl _ _ rfl g3 rfl (layV f) _ lL.out Tryz.underlying88 rfl HSL.out ?_) | go_big_quiet_skip | (go_big_quiet_want; go_big_quiet_op; go_big_quiet_on) | quiet_step (first | with_reducible exact q1 _ _ | with_reducible exact q2 _ _))
   refine wpQuiet_nil ?_
   intro w6 hw6
   replace HO := Lib.hid (HO.out.on (below_of_regrown hw6))
   clear hw6 q1 q2 l11 lL
   go_wp2
   go_ret
   refine ⟨?_, HO.out.bl⟩
   rw [HFB.out, decide_eq_false (show ¬ R.size ≤ n1 by omega)]
   rfl
end Go.Proofs.YtibahbkjjfmbgaaGreatDoor
