/-
  What is proved here: the first error of a zone, as the program finds it.
-/
import Derived.Test.YtibahbkjjfmbgaaGreatDoorUY5
import Derived.Test.YtibahbkjjfmbgaaGreatDoorUY2
import Derived.Test.YtibahbkjjfmbgaaGreatDoorUY4
import Derived.Test.YtibahbkjjfmbgaaGreatDoorUY3
namespace Go.Proofs.YtibahbkjjfmbgaaGreatDoor
open Go.RowKit Go.Maps
set_option linter.unusedVariables false
theorem siz_code {f : Int} (hf : 1 ≤ f ∧ f ≤ 3) : sizN f 0 = 2 ∧ sizN f 1 = 3 ∧ sizN f 5 = 3 := by
 have h : f = 1 ∨ f = 2 ∨ f = 3 := by omega
 rcases h with rfl | rfl | rfl <;> exact ⟨rfl, rfl, rfl⟩
theorem p_size0 (f : Int) (hf : 1 ≤ f ∧ f ≤ 3) (w : World) : Calls Tryz.prog 97 #[.agg (layV f).toArray, .int .i64 0] w fun e w' => e = .returned (.int .i64 2) ∧ Below w.heap.size w w' := by
 have := p_size f hf 0 (by decide) w; rw [(siz_code hf).1] at this; exact this
theorem p_size1 (f : Int) (hf : 1 ≤ f ∧ f ≤ 3) (w : World) : Calls Tryz.prog 97 #[.agg (layV f).toArray, .int .i64 1] w fun e w' => e = .returned (.int .i64 3) ∧ Below w.heap.size w w' := by
 have := p_size f hf 1 (by decide) w; rw [(siz_code hf).2.1] at this; exact this
theorem p_size5 (f : Int) (hf : 1 ≤ f ∧ f ≤ 3) (w : World) : Calls Tryz.prog 97 #[.agg (layV f).toArray, .int .i64 5] w fun e w' => e = .returned (.int .i64 3) ∧ Below w.heap.size w w' := by
 have := p_size f hf 5 (by decide) w; rw [(siz_code hf).2.2] at this; exact this
theorem p_code (x : List UInt8) (n : Nat) (b : Bool) (hb : codeB x n = b) (w : World) (hm : (S x).size ≤ 140737488355328) : Calls Tryz.prog 101 #[.string (S x), .int .i64 (n : Int)] w fun e w' => e = .returned (.bool b) ∧ w = w' := by
 rw [← hb]; exact (p_is_code (S x) x rfl n w hm).mono fun e w' h => ⟨h.1, h.2.symm⟩
theorem Own.qup {P : Program} {w cur : World} {L : List (Nat × List Value)} {f : FuncId} {args : Array Value} {v : Value} (ho : Own w cur L) (h : ∀ w', Below cur.heap.size cur w' → Calls P f args w' fun e w'' => e = .returned v ∧ Below w'.heap.size w' w'') : ∀ (d : Nat) (os : Array Obj), Calls P f args (Go.Sort.grow (redrawn cur d) os) fun e w'' => e = .returned v ∧ ∃ p : Regrown, w'' = Go.Sort.grow (redrawn cur p.d) p.os := quiet_up h
theorem Own.qst {P : Program} {w cur : World} {L : List (Nat × List Value)} {f : FuncId} {args : Array Value} {v : Value} (ho : Own w cur L) (h : ∀ w', Calls P f args w' fun e w'' => e = .returned v ∧ w' = w'') : ∀ (d : Nat) (os : Array Obj), Calls P f args (Go.Sort.grow (redrawn cur d) os) fun e w'' => e = .returned v ∧ ∃ p : Regrown, w'' = Go.Sort.grow (redrawn cur p.d) p.os := quiet_still h
theorem wpList_load_cg {P : Program} {ops : Array Oper} {rest : List Oper} {op : Oper} {a : Act} {w : World} {Q : Exit → Act → World → Prop} (hw : Region.wanted op (yielded ops a.tmps) = true) (ty : TypeId) (x : Operand) (ho : op.op = .load ty x) (g k : Nat)
 (hx : a.eval x = .pointer (some ⟨g, k, none⟩)) (v : Value) (hc : w.cell? ⟨g, k, none⟩ = some v) (ha : ∀ w, (isAgg ty).run P w = .ok false w)
 (hK : wpList P ops Q rest (a.put op.dst v) w) : wpList P ops Q (op :: rest) a w := by
 refine wpList_step fun K hK2 => ?_
 rw [if_pos hw]
 exact o_ld ty x ho hx hc ha (hK2 _ _ hK)
theorem lay_mx {f : Int} (h : 1 ≤ f ∧ f ≤ 3) : (layV f)[3]? = some (.int .i64 ((maxN f : Nat) : Int)) := by
 have h : f = 1 ∨ f = 2 ∨ f = 3 := by omega
 rcases h with rfl | rfl | rfl <;> rfl
theorem p_surB (x : List UInt8) (b : Bool) (hb : (decide (x ≠ []) && nameL x) = b) (w : World) (hm : (S x).size ≤ 140737488355328) : Calls Tryz.prog 102 #[.string (S x)] w fun e w' => e = .returned (.bool b) ∧ w = w' := by
 rw [← hb]; exact (p_surname (S x) x rfl w hm).mono fun e w' h => ⟨h.1, h.2.symm⟩
theorem p_nameB (x : List UInt8) (b : Bool) (hb : nameL x = b) (w : World) (hm : (S x).size ≤ 140737488355328) : Calls Tryz.prog 103 #[.string (S x)] w fun e w' => e = .returned (.bool b) ∧ w = w' := by
 rw [← hb]; exact (p_name (S x) x rfl w hm).mono fun e w' h => ⟨h.1, h.2.symm⟩
theorem p_numB (x : List UInt8) (b : Bool) (hb : (decide (x ≠ []) && plainB x) = b) (w : World) (hm : (S x).size ≤ 140737488355328) : Calls Tryz.prog 104 #[.string (S x)] w fun e w' => e = .returned (.bool b) ∧ w = w' := by
 rw [← hb]; exact (p_number (S x) x rfl w hm).mono fun e w' h => ⟨h.1, h.2.symm⟩
theorem p_sexB (x : List UInt8) (b : Bool) (hb : sexB x = b) (w : World) (hm : (S x).size ≤ 140737488355328) : Calls Tryz.prog 106 #[.string (S x)] w fun e w' => e = .returned (.bool b) ∧ w = w' := by
 rw [← hb]; exact (p_sex (S x) x rfl w).mono fun e w' h => ⟨h.1, h.2.symm⟩
theorem p_addB (x : List UInt8) (b : Bool) (hb : extraB x = b) (w : World) (hm : (S x).size ≤ 140737488355328) : Calls Tryz.prog 108 #[.string (S x)] w fun e w' => e = .returned (.bool b) ∧ w = w' := by
 rw [← hb]; exact (p_add (S x) x rfl w hm).mono fun e w' h => ⟨h.1, h.2.symm⟩
theorem p_birB (x : List UInt8) (b : Bool) (hb : birthB x = b) (w : World) (hM : Mm w) (hm : (S x).size ≤ 140737488355328) : Calls Tryz.prog 105 #[.string (S x)] w fun e w' => e = .returned (.bool b) ∧ w = w' := by
 rw [← hb]; exact (p_birth (S x) x rfl w hM hm).mono fun e w' h => ⟨h.1, h.2.symm⟩
theorem p_expB (x : List UInt8) (b : Bool) (hb : expB x = b) (w : World) (hM : Mm w) (hm : (S x).size ≤ 140737488355328) : Calls Tryz.prog 107 #[.string (S x)] w fun e w' => e = .returned (.bool b) ∧ Below w.heap.size w w' := by
 rw [← hb]; exact p_expiry (S x) x rfl w hm hM
theorem p_fitB (f : Int) (hf : 1 ≤ f ∧ f ≤ 3) (z : Zn) (b : Bool) (hb : fitB f z = b) (us : List Value) (hus : zV z = us) (hz : Bears z) (w : World) (hM : Mm w) : Calls Tryz.prog 109 #[.agg us.toArray, .agg (layV f).toArray] w fun e w' => e = .returned (.bool b) ∧ Below w.heap.size w w' := by
 rw [← hb, ← hus]; exact p_fit f hf z hz w hM
theorem plain_dg {x : List UInt8} (h : (decide (x ≠ []) && plainB x) = true) : (dgL x).length = 1 := by
 simp only [Bool.and_eq_true, plainB] at h
 unfold dgL
 rw [if_pos h.2.2]
 rfl
theorem fit_of {z : Zn} (hf : 1 ≤ z.fm ∧ z.fm ≤ 3) (hn : (decide (z.nu ≠ []) && plainB z.nu) = true) (hs : ¬ (z.se ≠ [] ∧ z.fm ≠ 1)) : fitB z.fm z = decide (¬ (optN z.fm < needN z ∨ 11 < z.se.length)) := by
 have h1 := plain_dg hn
 have h2 : (dvC z.nu z.op).length = needN z := by
  unfold dvC needN
  split
  · simp [h1]; omega
  · simp
 have h3 : sizN z.fm 11 = optN z.fm ∧ (z.fm = 1 → sizN z.fm 13 = 11) := by
  have h : z.fm = 1 ∨ z.fm = 2 ∨ z.fm = 3 := by omega
  rcases h with h | h | h <;> rw [h] <;> refine ⟨rfl, fun e => ?_⟩ <;> first | rfl | (exact absurd e (by decide))
 unfold fitB
 rw [h2, h3.1]
 by_cases e : z.fm = 1
 · rw [h3.2 e, Bool.eq_iff_iff]
   simp
 · have e2 : z.se = [] := by
    rcases hq : z.se with _ | ⟨a, b⟩
    · rfl
    · exact absurd ⟨by rw [hq]; simp, e⟩ hs
   rw [e2, Bool.eq_iff_iff]
   simp
theorem p_code2 (x : List UInt8) (b : Bool) (hb : codeB x 2 = b) (w : World) (hm : (S x).size ≤ 140737488355328) : Calls Tryz.prog 101 #[.string (S x), .int .i64 2] w fun e w' => e = .returned (.bool b) ∧ w = w' := p_code x 2 b hb w hm
theorem p_code3 (x : List UInt8) (b : Bool) (hb : codeB x 3 = b) (w : World) (hm : (S x).size ≤ 140737488355328) : Calls Tryz.prog 101 #[.string (S x), .int .i64 3] w fun e w' => e = .returned (.bool b) ∧ w = w' := p_code x 3 b hb w hm
theorem vE_chain (z : Zn) : vE z = if ¬ (1 ≤ z.fm ∧ z.fm ≤ 3) then 14 else if codeB z.kd 2 = false then 14 else if codeB z.st 3 = false then 14 else if (decide (z.su ≠ []) && nameL z.su) = false then 14 else if nameL z.gi = false then 14 else if (decide (z.nu ≠ []) && plainB z.nu) = false then 14
 else if maxN z.fm < z.nu.length then 2 else if codeB z.na 3 = false then 14 else if birthB z.bi = false then 8 else if sexB z.sx = false then 14 else if expB z.ex = false then 8 else if extraB z.op = false then 14 else if extraB z.se = false then 14 else if z.se ≠ [] ∧ z.fm ≠ 1 then 14 else if fitB z.fm z = false then 2 else 0 := by
 by_cases hf : 1 ≤ z.fm ∧ z.fm ≤ 3
 ·
  rw [if_neg (by simpa using hf)]
  unfold vE vE1
  rw [decide_eq_true hf]
  rcases h1 : codeB z.kd 2 with _ | _
  · simp
  rcases h2 : codeB z.st 3 with _ | _
  · simp
  rcases h3 : nameL z.su with _ | _
  · simp
  by_cases h4 : z.su = []
  · simp [h4]
  rcases h5 : nameL z.gi with _ | _
  · simp [h4]
  by_cases h6 : z.nu = []
  · simp [h4, h6]
  rcases h7 : plainB z.nu with _ | _
  · simp [h4, h6]
  simp only [h4, h6, ne_eq, not_false_eq_true, decide_true, Bool.and_self, Bool.true_eq_false, if_false]
  by_cases h8 : maxN z.fm < z.nu.length
  · rw [if_pos h8, if_pos h8]
  rw [if_neg h8, if_neg h8]
  rcases h9 : codeB z.na 3 with _ | _
  · simp
  rcases h10 : birthB z.bi with _ | _
  · simp
  rcases h11 : sexB z.sx with _ | _
  · simp
  rcases h12 : expB z.ex with _ | _
  · simp
  rcases h13 : extraB z.op with _ | _
  · simp
  rcases h14 : extraB z.se with _ | _
  · simp
  by_cases h15 : z.se ≠ [] ∧ z.fm ≠ 1
  · simp [h15]
  have hfit := fit_of hf (by simp [h6, h7]) h15
  rw [hfit]
  simp only [Bool.true_eq_false, if_false, false_or, ne_eq] at h15 ⊢
  rw [if_neg h15, if_neg h15]
  by_cases h16 : optN z.fm < needN z ∨ 11 < z.se.length
  · rw [if_pos h16, if_pos (by rw [decide_eq_false (fun hn => hn h16)])]
  · rw [if_neg h16, if_neg (by rw [decide_eq_true h16]; simp)]
 · rw [if_pos hf]
   unfold vE vE1
   rw [decide_eq_false hf]
   simp
set_option maxHeartbeats 3200000 in
set_option maxRecDepth 20000 in
theorem p_zvalid (z : Zn) (hz : Bears z) (w : World) (hM : Mm w) :
 Calls Tryz.prog 63 #[z.val] w fun e w' => e = .returned (.int .i64 (vE z)) ∧ Below w.heap.size w w' := by
 have HM := Lib.hid hM
 have HZ := Lib.hid hz
 clear hM hz
 have HO := Lib.hid (Own.start w)
 have e0 : z.val = .agg (zV z).toArray := rfl
 obtain ⟨us, hus⟩ : ∃ us, zV z = us := ⟨_, rfl⟩
 rw [e0, hus]
 have HU := Lib.hid hus
 have HU0 : Hid (us[0]? = some (.int .i64 z.fm)) := Lib.hid (by rw [← hus]; rfl)
 have HU1 : Hid (us[1]? = some (.string (S z.kd))) := Lib.hid (by rw [← hus]; rfl)
 have HU2 : Hid (us[2]? = some (.string (S z.st))) := Lib.hid (by rw [← hus]; rfl)
 have HU3 : Hid (us[3]? = some (.string (S z.su))) := Lib.hid (by rw [← hus]; rfl)
 have HU4 : Hid (us[4]? = some (.string (S z.gi))) := Lib.hid (by rw [← hus]; rfl)
 have HU5 : Hid (us[5]? = some (.string (S z.nu))) := Lib.hid (by rw [← hus]; rfl)
 have HU6 : Hid (us[6]? = some (.string (S z.na))) := Lib.hid (by rw [← hus]; rfl)
 have HU7 : Hid (us[7]? = some (.string (S z.bi))) := Lib.hid (by rw [← hus]; rfl)
 have HU8 : Hid (us[8]? = some (.string (S z.sx))) := Lib.hid (by rw [← hus]; rfl)
 have HU9 : Hid (us[9]? = some (.string (S z.ex))) := Lib.hid (by rw [← hus]; rfl)
 have HU10 : Hid (us[10]? = some (.string (S z.op))) := Lib.hid (by rw [← hus]; rfl)
 have HU11 : Hid (us[11]? = some (.string (S z.se))) := Lib.hid (by rw [← hus]; rfl)
 have HUL : Hid (us.length = 12) := Lib.hid (by rw [← hus]; rfl)
 clear e0 hus
 by_cases hf : 1 ≤ z.fm ∧ z.fm ≤ 3
 ·
  have HF := Lib.hid hf
  have HSL : Hid ((Tryz.prog.info? 88).map (·.size) = some (layV z.fm).length) := Lib.hid (by rw [layV_len HF.out]; exact size_l)
  obtain ⟨f, hff⟩ : ∃ f, z.fm = f := ⟨_, rfl⟩
  rw [hff] at HF HSL HU0
  have HFF := Lib.hid hff
  clear hf hff
  go_enter Tryz.func63, Tryz.ntmps63
  go_wp2_with (first
   | ((with_reducible refine at_box_ (d := 1) ?_); refine wpList_box_v (op := ⟨some 1, _, _, _, _, _⟩) rfl 44 _ rfl us rfl ?_; intro g1 v1b hf hr; replace HO := Lib.hid (HO.out.new hf hr); clear hf hr)
   | ((with_reducible refine at_load_ (d := 7) ?_); refine wpList_load_c (op := ⟨some 7, _, _, _, _, _⟩) rfl 3 _ rfl g1 0 rfl _ (((HO.out.row (i := 0) rfl).cell 0).trans HU0.out) Tryz.isAgg3 ?_)
   | (go_at_call 92; ((with_reducible refine (layout_of f HF.out _).mono ?_); rintro e w5 ⟨rfl, hb⟩); replace HO := Lib.hid (HO.out.on hb); clear hb)
   | ((with_reducible refine at_alloc_ (d := 3) ?_); refine wpList_alloc_v (op := ⟨some 3, _, _, _, _, _⟩) rfl 88 rfl lay0 info_l ?_; intro g3 v3a hf hr; replace HO := Lib.hid (HO.out.new hf hr); clear hf hr)
   | ((with_reducible refine at_store_ (i := 3) ?_); refine wpList_store_v rfl 88 (.tmp 3) (.tmp 9) rfl g3 lay0 (layV f) rfl rfl (HO.out.row (i := 1) rfl) (by rw [layV_len HF.out]; rfl) (layR_one _ _ _) HSL.out ?_; intro v3s9 hw hr; replace HO := Lib.hid (HO.out.set (i := 1) rfl hw hr); clear hw hr))
  rcases H10 : codeB z.kd 2 with _ | _
  all_goals (have H1 := Lib.hid H10; clear H10)
  ·
   skip
   have qs := HO.out.qup fun w' hb => p_size0 f HF.out w'
   have qk := HO.out.qst fun w' => p_code2 z.kd false H1.out w' HZ.out.kd
   have lk := (HO.out.row (i := 0) rfl).quiet (k := 1) HU1.out
   have lL := Lib.hid ((HO.out.row (i := 1) rfl).up)
   refine wp_region_quiet_below (by kernel_rfl) (by kernel_rfl) ?_
   repeat (first | ((with_reducible refine at_qload_ (d := 16) ?_); refine quiet_load_v rfl _ _ rfl g3 rfl (layV f) _ lL.out Tryz.underlying88 rfl HSL.out ?_) | go_big_quiet_skip | (go_big_quiet_want; go_big_quiet_op; go_big_quiet_on) | quiet_step (first | with_reducible exact qs _ _ | with_reducible exact qk _ _))
   refine wpQuiet_nil ?_
   intro w4 hw4
   replace HO := Lib.hid (HO.out.on (below_of_regrown hw4))
   clear hw4 qs qk lk lL
   go_wp2
   go_ret
   exact ⟨by rw [vE_chain, if_neg (by rw [HFF.out]; exact not_not_intro HF.out), if_pos (H1.out)]; rfl, HO.out.bl⟩
  ·
   skip
   have qs := HO.out.qup fun w' hb => p_size0 f HF.out w'
   have qk := HO.out.qst fun w' => p_code2 z.kd true H1.out w' HZ.out.kd
   have lk := (HO.out.row (i := 0) rfl).quiet (k := 1) HU1.out
   have lL := Lib.hid ((HO.out.row (i := 1) rfl).up)
   refine wp_region_quiet_below (by kernel_rfl) (by kernel_rfl) ?_
   repeat (first | ((with_reducible refine at_qload_ (d := 16) ?_); refine quiet_load_v rfl _ _ rfl g3 rfl (layV f) _ lL.out Tryz.underlying88 rfl HSL.out ?_) | go_big_quiet_skip | (go_big_quiet_want; go_big_quiet_op; go_big_quiet_on) | quiet_step (first | with_reducible exact qs _ _ | with_reducible exact qk _ _))
   refine wpQuiet_nil ?_
   intro w4 hw4
   replace HO := Lib.hid (HO.out.on (below_of_regrown hw4))
   clear hw4 qs qk lk lL
   go_wp2_with fail
   rcases H20 : codeB z.st 3 with _ | _
   all_goals (have H2 := Lib.hid H20; clear H20)
   ·
    skip
    have qs := HO.out.qup fun w' hb => p_size1 f HF.out w'
    have qk := HO.out.qst fun w' => p_code3 z.st false H2.out w' HZ.out.st
    have lk := (HO.out.row (i := 0) rfl).quiet (k := 2) HU2.out
    have lL := Lib.hid ((HO.out.row (i := 1) rfl).up)
    refine wp_region_quiet_below (by kernel_rfl) (by kernel_rfl) ?_
    repeat (first | ((with_reducible refine at_qload_ (d := 22) ?_); refine quiet_load_v rfl _ _ rfl g3 rfl (layV f) _ lL.out Tryz.underlying88 rfl HSL.out ?_) | go_big_quiet_skip | (go_big_quiet_want; go_big_quiet_op; go_big_quiet_on) | quiet_step (first | with_reducible exact qs _ _ | with_reducible exact qk _ _))
    refine wpQuiet_nil ?_
    intro w4 hw4
    replace HO := Lib.hid (HO.out.on (below_of_regrown hw4))
    clear hw4 qs qk lk lL
    go_wp2
    go_ret
    exact ⟨by rw [vE_chain, if_neg (by rw [HFF.out]; exact not_not_intro HF.out), if_neg (by rw [H1.out]; decide), if_pos (H2.out)]; rfl, HO.out.bl⟩
   ·
    skip
    have qs := HO.out.qup fun w' hb => p_size1 f HF.out w'
    have qk := HO.out.qst fun w' => p_code3 z.st true H2.out w' HZ.out.st
    have lk := (HO.out.row (i := 0) rfl).quiet (k := 2) HU2.out
    have lL := Lib.hid ((HO.out.row (i := 1) rfl).up)
    refine wp_region_quiet_below (by kernel_rfl) (by kernel_rfl) ?_
    repeat (first | ((with_reducible refine at_qload_ (d := 22) ?_); refine quiet_load_v rfl _ _ rfl g3 rfl (layV f) _ lL.out Tryz.underlying88 rfl HSL.out ?_) | go_big_quiet_skip | (go_big_quiet_want; go_big_quiet_op; go_big_quiet_on) | quiet_step (first | with_reducible exact qs _ _ | with_reducible exact qk _ _))
    refine wpQuiet_nil ?_
    intro w4 hw4
    replace HO := Lib.hid (HO.out.on (below_of_regrown hw4))
    clear hw4 qs qk lk lL
    rcases H30 : (decide (z.su ≠ []) && nameL z.su) with _ | _
    all_goals (have H3 := Lib.hid H30; clear H30)
    · skip
      go_wp2_with (first
       | ((with_reducible refine at_load_ (d := 27) ?_); refine wpList_load_c (op := ⟨some 27, _, _, _, _, _⟩) rfl 9 _ rfl g1 3 rfl _ (((HO.out.row (i := 0) rfl).cell 3).trans HU3.out) Tryz.isAgg9 ?_)
       | (go_at_call 102; ((with_reducible refine (p_surB z.su false H3.out _ HZ.out.su).mono ?_); rintro e w9 ⟨rfl, rfl⟩)))
      go_ret
      exact ⟨by rw [vE_chain, if_neg (by rw [HFF.out]; exact not_not_intro HF.out), if_neg (by rw [H1.out]; decide), if_neg (by rw [H2.out]; decide), if_pos (H3.out)]; rfl, HO.out.bl⟩
    ·
     skip
     rcases H40 : nameL z.gi with _ | _
     all_goals (have H4 := Lib.hid H40; clear H40)
     · skip
       go_wp2_with (first
        | ((with_reducible refine at_load_ (d := 27) ?_); refine wpList_load_c (op := ⟨some 27, _, _, _, _, _⟩) rfl 9 _ rfl g1 3 rfl _ (((HO.out.row (i := 0) rfl).cell 3).trans HU3.out) Tryz.isAgg9 ?_)
        | (go_at_call 102; ((with_reducible refine (p_surB z.su true H3.out _ HZ.out.su).mono ?_); rintro e w9 ⟨rfl, rfl⟩))
        | ((with_reducible refine at_load_ (d := 31) ?_); refine wpList_load_c (op := ⟨some 31, _, _, _, _, _⟩) rfl 9 _ rfl g1 4 rfl _ (((HO.out.row (i := 0) rfl).cell 4).trans HU4.out) Tryz.isAgg9 ?_)
        | (go_at_call 103; ((with_reducible refine (p_nameB z.gi false H4.out _ HZ.out.gi).mono ?_); rintro e w9 ⟨rfl, rfl⟩)))
       go_ret
       exact ⟨by rw [vE_chain, if_neg (by rw [HFF.out]; exact not_not_intro HF.out), if_neg (by rw [H1.out]; decide), if_neg (by rw [H2.out]; decide), if_neg (by rw [H3.out]; decide), if_pos (H4.out)]; rfl, HO.out.bl⟩
     ·
      skip
      rcases H50 : (decide (z.nu ≠ []) && plainB z.nu) with _ | _
      all_goals (have H5 := Lib.hid H50; clear H50)
      · skip
        go_wp2_with (first
         | ((with_reducible refine at_load_ (d := 27) ?_); refine wpList_load_c (op := ⟨some 27, _, _, _, _, _⟩) rfl 9 _ rfl g1 3 rfl _ (((HO.out.row (i := 0) rfl).cell 3).trans HU3.out) Tryz.isAgg9 ?_)
         | (go_at_call 102; ((with_reducible refine (p_surB z.su true H3.out _ HZ.out.su).mono ?_); rintro e w9 ⟨rfl, rfl⟩))
         | ((with_reducible refine at_load_ (d := 31) ?_); refine wpList_load_c (op := ⟨some 31, _, _, _, _, _⟩) rfl 9 _ rfl g1 4 rfl _ (((HO.out.row (i := 0) rfl).cell 4).trans HU4.out) Tryz.isAgg9 ?_)
         | (go_at_call 103; ((with_reducible refine (p_nameB z.gi true H4.out _ HZ.out.gi).mono ?_); rintro e w9 ⟨rfl, rfl⟩))
         | ((with_reducible refine at_load_ (d := 36) ?_); refine wpList_load_c (op := ⟨some 36, _, _, _, _, _⟩) rfl 9 _ rfl g1 5 rfl _ (((HO.out.row (i := 0) rfl).cell 5).trans HU5.out) Tryz.isAgg9 ?_)
         | (go_at_call 104; ((with_reducible refine (p_numB z.nu false H5.out _ HZ.out.nu).mono ?_); rintro e w9 ⟨rfl, rfl⟩)))
        go_ret
        exact ⟨by rw [vE_chain, if_neg (by rw [HFF.out]; exact not_not_intro HF.out), if_neg (by rw [H1.out]; decide), if_neg (by rw [H2.out]; decide), if_neg (by rw [H3.out]; decide), if_neg (by rw [H4.out]; decide), if_pos (H5.out)]; rfl, HO.out.bl⟩
      ·
       skip
       have hz5 := HZ.out.nu
       obtain ⟨m, hm⟩ : ∃ m, maxN f = m := ⟨_, rfl⟩
       have HMX := Lib.hid hm
       have LMX : Hid ((layV f)[3]? = some (.int .i64 (m : Int))) := Lib.hid (by rw [← hm]; exact lay_mx HF.out)
       clear hm
       by_cases h6 : m < (S z.nu).size
       · have H6 : Hid (maxN z.fm < z.nu.length) := Lib.hid (by rw [HFF.out, HMX.out, ← S_size]; exact h6)
         go_wp2_with (first
          | ((with_reducible refine at_load_ (d := 27) ?_); refine wpList_load_c (op := ⟨some 27, _, _, _, _, _⟩) rfl 9 _ rfl g1 3 rfl _ (((HO.out.row (i := 0) rfl).cell 3).trans HU3.out) Tryz.isAgg9 ?_)
          | (go_at_call 102; ((with_reducible refine (p_surB z.su true H3.out _ HZ.out.su).mono ?_); rintro e w9 ⟨rfl, rfl⟩))
          | ((with_reducible refine at_load_ (d := 31) ?_); refine wpList_load_c (op := ⟨some 31, _, _, _, _, _⟩) rfl 9 _ rfl g1 4 rfl _ (((HO.out.row (i := 0) rfl).cell 4).trans HU4.out) Tryz.isAgg9 ?_)
          | (go_at_call 103; ((with_reducible refine (p_nameB z.gi true H4.out _ HZ.out.gi).mono ?_); rintro e w9 ⟨rfl, rfl⟩))
          | ((with_reducible refine at_load_ (d := 36) ?_); refine wpList_load_c (op := ⟨some 36, _, _, _, _, _⟩) rfl 9 _ rfl g1 5 rfl _ (((HO.out.row (i := 0) rfl).cell 5).trans HU5.out) Tryz.isAgg9 ?_)
          | (go_at_call 104; ((with_reducible refine (p_numB z.nu true H5.out _ HZ.out.nu).mono ?_); rintro e w9 ⟨rfl, rfl⟩))
          | ((with_reducible refine at_load_ (d := 41) ?_); refine wpList_load_c (op := ⟨some 41, _, _, _, _, _⟩) rfl 9 _ rfl g1 5 rfl _ (((HO.out.row (i := 0) rfl).cell 5).trans HU5.out) Tryz.isAgg9 ?_)
          | ((with_reducible refine at_load_ (d := 44) ?_); refine wpList_load_c (op := ⟨some 44, _, _, _, _, _⟩) rfl 3 _ rfl g3 3 rfl _ (((HO.out.row (i := 1) rfl).cell 3).trans LMX.out) Tryz.isAgg3 ?_))
         go_ret
         exact ⟨by rw [vE_chain, if_neg (by rw [HFF.out]; exact not_not_intro HF.out), if_neg (by rw [H1.out]; decide), if_neg (by rw [H2.out]; decide), if_neg (by rw [H3.out]; decide), if_neg (by rw [H4.out]; decide), if_neg (by rw [H5.out]; decide), if_pos (H6.out)]; rfl, HO.out.bl⟩
       ·
        have H6 : Hid (¬ (maxN z.fm < z.nu.length)) := Lib.hid (by rw [HFF.out, HMX.out, ← S_size]; exact h6)
        go_wp2_with (first
         | ((with_reducible refine at_load_ (d := 27) ?_); refine wpList_load_c (op := ⟨some 27, _, _, _, _, _⟩) rfl 9 _ rfl g1 3 rfl _ (((HO.out.row (i := 0) rfl).cell 3).trans HU3.out) Tryz.isAgg9 ?_)
         | (go_at_call 102; ((with_reducible refine (p_surB z.su true H3.out _ HZ.out.su).mono ?_); rintro e w9 ⟨rfl, rfl⟩))
         | ((with_reducible refine at_load_ (d := 31) ?_); refine wpList_load_c (op := ⟨some 31, _, _, _, _, _⟩) rfl 9 _ rfl g1 4 rfl _ (((HO.out.row (i := 0) rfl).cell 4).trans HU4.out) Tryz.isAgg9 ?_)
         | (go_at_call 103; ((with_reducible refine (p_nameB z.gi true H4.out _ HZ.out.gi).mono ?_); rintro e w9 ⟨rfl, rfl⟩))
         | ((with_reducible refine at_load_ (d := 36) ?_); refine wpList_load_c (op := ⟨some 36, _, _, _, _, _⟩) rfl 9 _ rfl g1 5 rfl _ (((HO.out.row (i := 0) rfl).cell 5).trans HU5.out) Tryz.isAgg9 ?_)
         | (go_at_call 104; ((with_reducible refine (p_numB z.nu true H5.out _ HZ.out.nu).mono ?_); rintro e w9 ⟨rfl, rfl⟩))
         | ((with_reducible refine at_load_ (d := 41) ?_); refine wpList_load_c (op := ⟨some 41, _, _, _, _, _⟩) rfl 9 _ rfl g1 5 rfl _ (((HO.out.row (i := 0) rfl).cell 5).trans HU5.out) Tryz.isAgg9 ?_)
         | ((with_reducible refine at_load_ (d := 44) ?_); refine wpList_load_c (op := ⟨some 44, _, _, _, _, _⟩) rfl 3 _ rfl g3 3 rfl _ (((HO.out.row (i := 1) rfl).cell 3).trans LMX.out) Tryz.isAgg3 ?_))
        rcases H70 : codeB z.na 3 with _ | _
        all_goals (have H7 := Lib.hid H70; clear H70)
        ·
         skip
         have qs := HO.out.qup fun w' hb => p_size5 f HF.out w'
         have qk := HO.out.qst fun w' => p_code3 z.na false H7.out w' HZ.out.na
         have lk := (HO.out.row (i := 0) rfl).quiet (k := 6) HU6.out
         have lL := Lib.hid ((HO.out.row (i := 1) rfl).up)
         refine wp_region_quiet_below (by kernel_rfl) (by kernel_rfl) ?_
         repeat (first | ((with_reducible refine at_qload_ (d := 49) ?_); refine quiet_load_v rfl _ _ rfl g3 rfl (layV f) _ lL.out Tryz.underlying88 rfl HSL.out ?_) | go_big_quiet_skip | (go_big_quiet_want; go_big_quiet_op; go_big_quiet_on) | quiet_step (first | with_reducible exact qs _ _ | with_reducible exact qk _ _))
         refine wpQuiet_nil ?_
         intro w4 hw4
         replace HO := Lib.hid (HO.out.on (below_of_regrown hw4))
         clear hw4 qs qk lk lL
         go_wp2
         go_ret
         exact ⟨by rw [vE_chain, if_neg (by rw [HFF.out]; exact not_not_intro HF.out), if_neg (by rw [H1.out]; decide), if_neg (by rw [H2.out]; decide), if_neg (by rw [H3.out]; decide), if_neg (by rw [H4.out]; decide), if_neg (by rw [H5.out]; decide), if_neg (H6.out), if_pos (H7.out)]; rfl, HO.out.bl⟩
        ·
         skip
         have qs := HO.out.qup fun w' hb => p_size5 f HF.out w'
         have qk := HO.out.qst fun w' => p_code3 z.na true H7.out w' HZ.out.na
         have lk := (HO.out.row (i := 0) rfl).quiet (k := 6) HU6.out
         have lL := Lib.hid ((HO.out.row (i := 1) rfl).up)
         refine wp_region_quiet_below (by kernel_rfl) (by kernel_rfl) ?_
         repeat (first | ((with_reducible refine at_qload_ (d := 49) ?_); refine quiet_load_v rfl _ _ rfl g3 rfl (layV f) _ lL.out Tryz.underlying88 rfl HSL.out ?_) | go_big_quiet_skip | (go_big_quiet_want; go_big_quiet_op; go_big_quiet_on) | quiet_step (first | with_reducible exact qs _ _ | with_reducible exact qk _ _))
         refine wpQuiet_nil ?_
         intro w4 hw4
         replace HO := Lib.hid (HO.out.on (below_of_regrown hw4))
         clear hw4 qs qk lk lL
         rcases H80 : birthB z.bi with _ | _
         all_goals (have H8 := Lib.hid H80; clear H80)
         · skip
           go_wp2_with (first
            | ((with_reducible refine at_load_ (d := 55) ?_); refine wpList_load_c (op := ⟨some 55, _, _, _, _, _⟩) rfl 9 _ rfl g1 7 rfl _ (((HO.out.row (i := 0) rfl).cell 7).trans HU7.out) Tryz.isAgg9 ?_)
            | (go_at_call 105; ((with_reducible refine (p_birB z.bi false H8.out _ (HM.out.on HO.out.bl) HZ.out.bi).mono ?_); rintro e w9 ⟨rfl, rfl⟩)))
           go_ret
           exact ⟨by rw [vE_chain, if_neg (by rw [HFF.out]; exact not_not_intro HF.out), if_neg (by rw [H1.out]; decide), if_neg (by rw [H2.out]; decide), if_neg (by rw [H3.out]; decide), if_neg (by rw [H4.out]; decide), if_neg (by rw [H5.out]; decide), if_neg (H6.out), if_neg (by rw [H7.out]; decide), if_pos (H8.out)]; rfl, HO.out.bl⟩
         ·
          skip
          rcases H90 : sexB z.sx with _ | _
          all_goals (have H9 := Lib.hid H90; clear H90)
          · skip
            go_wp2_with (first
             | ((with_reducible refine at_load_ (d := 55) ?_); refine wpList_load_c (op := ⟨some 55, _, _, _, _, _⟩) rfl 9 _ rfl g1 7 rfl _ (((HO.out.row (i := 0) rfl).cell 7).trans HU7.out) Tryz.isAgg9 ?_)
             | (go_at_call 105; ((with_reducible refine (p_birB z.bi true H8.out _ (HM.out.on HO.out.bl) HZ.out.bi).mono ?_); rintro e w9 ⟨rfl, rfl⟩))
             | ((with_reducible refine at_load_ (d := 60) ?_); refine wpList_load_c (op := ⟨some 60, _, _, _, _, _⟩) rfl 9 _ rfl g1 8 rfl _ (((HO.out.row (i := 0) rfl).cell 8).trans HU8.out) Tryz.isAgg9 ?_)
             | (go_at_call 106; ((with_reducible refine (p_sexB z.sx false H9.out _ HZ.out.sx).mono ?_); rintro e w9 ⟨rfl, rfl⟩)))
            go_ret
            exact ⟨by rw [vE_chain, if_neg (by rw [HFF.out]; exact not_not_intro HF.out), if_neg (by rw [H1.out]; decide), if_neg (by rw [H2.out]; decide), if_neg (by rw [H3.out]; decide), if_neg (by rw [H4.out]; decide), if_neg (by rw [H5.out]; decide), if_neg (H6.out), if_neg (by rw [H7.out]; decide), if_neg (by rw [H8.out]; decide), if_pos (H9.out)]; rfl, HO.out.bl⟩
          ·
           skip
           rcases H100 : expB z.ex with _ | _
           all_goals (have H10 := Lib.hid H100; clear H100)
           · skip
             go_wp2_with (first
              | ((with_reducible refine at_load_ (d := 55) ?_); refine wpList_load_c (op := ⟨some 55, _, _, _, _, _⟩) rfl 9 _ rfl g1 7 rfl _ (((HO.out.row (i := 0) rfl).cell 7).trans HU7.out) Tryz.isAgg9 ?_)
              | (go_at_call 105; ((with_reducible refine (p_birB z.bi true H8.out _ (HM.out.on HO.out.bl) HZ.out.bi).mono ?_); rintro e w9 ⟨rfl, rfl⟩))
              | ((with_reducible refine at_load_ (d := 60) ?_); refine wpList_load_c (op := ⟨some 60, _, _, _, _, _⟩) rfl 9 _ rfl g1 8 rfl _ (((HO.out.row (i := 0) rfl).cell 8).trans HU8.out) Tryz.isAgg9 ?_)
              | (go_at_call 106; ((with_reducible refine (p_sexB z.sx true H9.out _ HZ.out.sx).mono ?_); rintro e w9 ⟨rfl, rfl⟩))
              | ((with_reducible refine at_load_ (d := 65) ?_); refine wpList_load_c (op := ⟨some 65, _, _, _, _, _⟩) rfl 9 _ rfl g1 9 rfl _ (((HO.out.row (i := 0) rfl).cell 9).trans HU9.out) Tryz.isAgg9 ?_)
              | (go_at_call 107; ((with_reducible refine (p_expB z.ex false H10.out _ (HM.out.on HO.out.bl) HZ.out.ex).mono ?_); rintro e w9 ⟨rfl, hb⟩); replace HO := Lib.hid (HO.out.on hb); clear hb))
             go_ret
             exact ⟨by rw [vE_chain, if_neg (by rw [HFF.out]; exact not_not_intro HF.out), if_neg (by rw [H1.out]; decide), if_neg (by rw [H2.out]; decide), if_neg (by rw [H3.out]; decide), if_neg (by rw [H4.out]; decide), if_neg (by rw [H5.out]; decide), if_neg (H6.out), if_neg (by rw [H7.out]; decide), if_neg (by rw [H8.out]; decide), if_neg (by rw [H9.out]; decide), if_pos (H10.out)]; rfl, HO.out.bl⟩
           ·
            skip
            rcases H110 : extraB z.op with _ | _
            all_goals (have H11 := Lib.hid H110; clear H110)
            · skip
              go_wp2_with (first
               | ((with_reducible refine at_load_ (d := 55) ?_); refine wpList_load_c (op := ⟨some 55, _, _, _, _, _⟩) rfl 9 _ rfl g1 7 rfl _ (((HO.out.row (i := 0) rfl).cell 7).trans HU7.out) Tryz.isAgg9 ?_)
               | (go_at_call 105; ((with_reducible refine (p_birB z.bi true H8.out _ (HM.out.on HO.out.bl) HZ.out.bi).mono ?_); rintro e w9 ⟨rfl, rfl⟩))
               | ((with_reducible refine at_load_ (d := 60) ?_); refine wpList_load_c (op := ⟨some 60, _, _, _, _, _⟩) rfl 9 _ rfl g1 8 rfl _ (((HO.out.row (i := 0) rfl).cell 8).trans HU8.out) Tryz.isAgg9 ?_)
               | (go_at_call 106; ((with_reducible refine (p_sexB z.sx true H9.out _ HZ.out.sx).mono ?_); rintro e w9 ⟨rfl, rfl⟩))
               | ((with_reducible refine at_load_ (d := 65) ?_); refine wpList_load_c (op := ⟨some 65, _, _, _, _, _⟩) rfl 9 _ rfl g1 9 rfl _ (((HO.out.row (i := 0) rfl).cell 9).trans HU9.out) Tryz.isAgg9 ?_)
               | (go_at_call 107; ((with_reducible refine (p_expB z.ex true H10.out _ (HM.out.on HO.out.bl) HZ.out.ex).mono ?_); rintro e w9 ⟨rfl, hb⟩); replace HO := Lib.hid (HO.out.on hb); clear hb)
               | ((with_reducible refine at_load_ (d := 70) ?_); refine wpList_load_c (op := ⟨some 70, _, _, _, _, _⟩) rfl 9 _ rfl g1 10 rfl _ (((HO.out.row (i := 0) rfl).cell 10).trans HU10.out) Tryz.isAgg9 ?_)
               | (go_at_call 108; ((with_reducible refine (p_addB z.op false H11.out _ HZ.out.op).mono ?_); rintro e w9 ⟨rfl, rfl⟩)))
              go_ret
              exact ⟨by rw [vE_chain, if_neg (by rw [HFF.out]; exact not_not_intro HF.out), if_neg (by rw [H1.out]; decide), if_neg (by rw [H2.out]; decide), if_neg (by rw [H3.out]; decide), if_neg (by rw [H4.out]; decide), if_neg (by rw [H5.out]; decide), if_neg (H6.out), if_neg (by rw [H7.out]; decide), if_neg (by rw [H8.out]; decide), if_neg (by rw [H9.out]; decide), if_neg (by rw [H10.out]; decide), if_pos (H11.out)]; rfl, HO.out.bl⟩
            ·
             skip
             rcases H120 : extraB z.se with _ | _
             all_goals (have H12 := Lib.hid H120; clear H120)
             ·
              skip
              go_wp2_with (first
               | ((with_reducible refine at_load_ (d := 55) ?_); refine wpList_load_c (op := ⟨some 55, _, _, _, _, _⟩) rfl 9 _ rfl g1 7 rfl _ (((HO.out.row (i := 0) rfl).cell 7).trans HU7.out) Tryz.isAgg9 ?_)
               | (go_at_call 105; ((with_reducible refine (p_birB z.bi true H8.out _ (HM.out.on HO.out.bl) HZ.out.bi).mono ?_); rintro e w9 ⟨rfl, rfl⟩))
               | ((with_reducible refine at_load_ (d := 60) ?_); refine wpList_load_c (op := ⟨some 60, _, _, _, _, _⟩) rfl 9 _ rfl g1 8 rfl _ (((HO.out.row (i := 0) rfl).cell 8).trans HU8.out) Tryz.isAgg9 ?_)
               | (go_at_call 106; ((with_reducible refine (p_sexB z.sx true H9.out _ HZ.out.sx).mono ?_); rintro e w9 ⟨rfl, rfl⟩))
               | ((with_reducible refine at_load_ (d := 65) ?_); refine wpList_load_c (op := ⟨some 65, _, _, _, _, _⟩) rfl 9 _ rfl g1 9 rfl _ (((HO.out.row (i := 0) rfl).cell 9).trans HU9.out) Tryz.isAgg9 ?_)
               | (go_at_call 107; ((with_reducible refine (p_expB z.ex true H10.out _ (HM.out.on HO.out.bl) HZ.out.ex).mono ?_); rintro e w9 ⟨rfl, hb⟩); replace HO := Lib.hid (HO.out.on hb); clear hb)
               | ((with_reducible refine at_load_ (d := 70) ?_); refine wpList_load_c (op := ⟨some 70, _, _, _, _, _⟩) rfl 9 _ rfl g1 10 rfl _ (((HO.out.row (i := 0) rfl).cell 10).trans HU10.out) Tryz.isAgg9 ?_)
               | (go_at_call 108; ((with_reducible refine (p_addB z.op true H11.out _ HZ.out.op).mono ?_); rintro e w9 ⟨rfl, rfl⟩))
               | ((with_reducible refine at_load_ (d := 74) ?_); refine wpList_load_c (op := ⟨some 74, _, _, _, _, _⟩) rfl 9 _ rfl g1 11 rfl _ (((HO.out.row (i := 0) rfl).cell 11).trans HU11.out) Tryz.isAgg9 ?_)
               | (go_at_call 108; ((with_reducible refine (p_addB z.se false H12.out _ HZ.out.se).mono ?_); rintro e w9 ⟨rfl, rfl⟩)))
              go_ret
              exact ⟨by rw [vE_chain, if_neg (by rw [HFF.out]; exact not_not_intro HF.out), if_neg (by rw [H1.out]; decide), if_neg (by rw [H2.out]; decide), if_neg (by rw [H3.out]; decide), if_neg (by rw [H4.out]; decide), if_neg (by rw [H5.out]; decide), if_neg (H6.out), if_neg (by rw [H7.out]; decide), if_neg (by rw [H8.out]; decide), if_neg (by rw [H9.out]; decide), if_neg (by rw [H10.out]; decide), if_neg (by rw [H11.out]; decide), if_pos (H12.out)]; rfl, HO.out.bl⟩
             ·
              skip
              have HSZ : Hid ((Tryz.prog.info? 44).map (·.size) = some us.length) := Lib.hid (by rw [HUL.out]; kernel_rfl)
              by_cases hse : z.se = []
              ·
               have hs := s_nil (s := S z.se) rfl hse
               have H13 : Hid (¬ (z.se ≠ [] ∧ z.fm ≠ 1)) := Lib.hid (fun h => h.1 hse)
               clear hse
               rcases H140 : fitB f z with _ | _
               all_goals (have H14 := Lib.hid H140; clear H140)
               ·
                skip
                go_wp2_with (first
                 | ((with_reducible refine at_load_ (d := 55) ?_); refine wpList_load_c (op := ⟨some 55, _, _, _, _, _⟩) rfl 9 _ rfl g1 7 rfl _ (((HO.out.row (i := 0) rfl).cell 7).trans HU7.out) Tryz.isAgg9 ?_)
                 | (go_at_call 105; ((with_reducible refine (p_birB z.bi true H8.out _ (HM.out.on HO.out.bl) HZ.out.bi).mono ?_); rintro e w9 ⟨rfl, rfl⟩))
                 | ((with_reducible refine at_load_ (d := 60) ?_); refine wpList_load_c (op := ⟨some 60, _, _, _, _, _⟩) rfl 9 _ rfl g1 8 rfl _ (((HO.out.row (i := 0) rfl).cell 8).trans HU8.out) Tryz.isAgg9 ?_)
                 | (go_at_call 106; ((with_reducible refine (p_sexB z.sx true H9.out _ HZ.out.sx).mono ?_); rintro e w9 ⟨rfl, rfl⟩))
                 | ((with_reducible refine at_load_ (d := 65) ?_); refine wpList_load_c (op := ⟨some 65, _, _, _, _, _⟩) rfl 9 _ rfl g1 9 rfl _ (((HO.out.row (i := 0) rfl).cell 9).trans HU9.out) Tryz.isAgg9 ?_)
                 | (go_at_call 107; ((with_reducible refine (p_expB z.ex true H10.out _ (HM.out.on HO.out.bl) HZ.out.ex).mono ?_); rintro e w9 ⟨rfl, hb⟩); replace HO := Lib.hid (HO.out.on hb); clear hb)
                 | ((with_reducible refine at_load_ (d := 70) ?_); refine wpList_load_c (op := ⟨some 70, _, _, _, _, _⟩) rfl 9 _ rfl g1 10 rfl _ (((HO.out.row (i := 0) rfl).cell 10).trans HU10.out) Tryz.isAgg9 ?_)
                 | (go_at_call 108; ((with_reducible refine (p_addB z.op true H11.out _ HZ.out.op).mono ?_); rintro e w9 ⟨rfl, rfl⟩))
                 | ((with_reducible refine at_load_ (d := 74) ?_); refine wpList_load_c (op := ⟨some 74, _, _, _, _, _⟩) rfl 9 _ rfl g1 11 rfl _ (((HO.out.row (i := 0) rfl).cell 11).trans HU11.out) Tryz.isAgg9 ?_)
                 | (go_at_call 108; ((with_reducible refine (p_addB z.se true H12.out _ HZ.out.se).mono ?_); rintro e w9 ⟨rfl, rfl⟩))
                 | ((with_reducible refine at_load_ (d := 78) ?_); refine wpList_load_c (op := ⟨some 78, _, _, _, _, _⟩) rfl 9 _ rfl g1 11 rfl _ (((HO.out.row (i := 0) rfl).cell 11).trans HU11.out) Tryz.isAgg9 ?_)
                 | ((with_reducible refine at_load_ (d := 82) ?_); refine wpList_load_cg (op := ⟨some 82, _, _, _, _, _⟩) (by rfl) 3 _ rfl g1 0 rfl _ (((HO.out.row (i := 0) rfl).cell 0).trans HU0.out) Tryz.isAgg3 ?_)
                 | ((with_reducible refine at_load_ (d := 86) ?_); refine wpList_load_v (op := ⟨some 86, _, _, _, _, _⟩) rfl 44 _ rfl g1 rfl us _ (HO.out.row (i := 0) rfl) Tryz.underlying44 rfl HSZ.out ?_)
                 | ((with_reducible refine at_load_ (d := 87) ?_); refine wpList_load_v (op := ⟨some 87, _, _, _, _, _⟩) rfl 88 _ rfl g3 rfl (layV f) _ (HO.out.row (i := 1) rfl) Tryz.underlying88 rfl HSL.out ?_)
                 | (go_at_call 109; ((with_reducible refine (p_fitB f HF.out z false H14.out us HU.out HZ.out _ (HM.out.on HO.out.bl)).mono ?_); rintro e w9 ⟨rfl, hb⟩); replace HO := Lib.hid (HO.out.on hb); clear hb))
                go_ret
                exact ⟨by rw [vE_chain, if_neg (by rw [HFF.out]; exact not_not_intro HF.out), if_neg (by rw [H1.out]; decide), if_neg (by rw [H2.out]; decide), if_neg (by rw [H3.out]; decide), if_neg (by rw [H4.out]; decide), if_neg (by rw [H5.out]; decide), if_neg (H6.out), if_neg (by rw [H7.out]; decide), if_neg (by rw [H8.out]; decide), if_neg (by rw [H9.out]; decide), if_neg (by rw [H10.out]; decide), if_neg (by rw [H11.out]; decide), if_neg (by rw [H12.out]; decide), if_neg (H13.out), if_pos (by rw [HFF.out]; exact H14.out)]; rfl, HO.out.bl⟩
               ·
                skip
                go_wp2_with (first
                 | ((with_reducible refine at_load_ (d := 55) ?_); refine wpList_load_c (op := ⟨some 55, _, _, _, _, _⟩) rfl 9 _ rfl g1 7 rfl _ (((HO.out.row (i := 0) rfl).cell 7).trans HU7.out) Tryz.isAgg9 ?_)
                 | (go_at_call 105; ((with_reducible refine (p_birB z.bi true H8.out _ (HM.out.on HO.out.bl) HZ.out.bi).mono ?_); rintro e w9 ⟨rfl, rfl⟩))
                 | ((with_reducible refine at_load_ (d := 60) ?_); refine wpList_load_c (op := ⟨some 60, _, _, _, _, _⟩) rfl 9 _ rfl g1 8 rfl _ (((HO.out.row (i := 0) rfl).cell 8).trans HU8.out) Tryz.isAgg9 ?_)
                 | (go_at_call 106; ((with_reducible refine (p_sexB z.sx true H9.out _ HZ.out.sx).mono ?_); rintro e w9 ⟨rfl, rfl⟩))
                 | ((with_reducible refine at_load_ (d := 65) ?_); refine wpList_load_c (op := ⟨some 65, _, _, _, _, _⟩) rfl 9 _ rfl g1 9 rfl _ (((HO.out.row (i := 0) rfl).cell 9).trans HU9.out) Tryz.isAgg9 ?_)
                 | (go_at_call 107; ((with_reducible refine (p_expB z.ex true H10.out _ (HM.out.on HO.out.bl) HZ.out.ex).mono ?_); rintro e w9 ⟨rfl, hb⟩); replace HO := Lib.hid (HO.out.on hb); clear hb)
                 | ((with_reducible refine at_load_ (d := 70) ?_); refine wpList_load_c (op := ⟨some 70, _, _, _, _, _⟩) rfl 9 _ rfl g1 10 rfl _ (((HO.out.row (i := 0) rfl).cell 10).trans HU10.out) Tryz.isAgg9 ?_)
                 | (go_at_call 108; ((with_reducible refine (p_addB z.op true H11.out _ HZ.out.op).mono ?_); rintro e w9 ⟨rfl, rfl⟩))
                 | ((with_reducible refine at_load_ (d := 74) ?_); refine wpList_load_c (op := ⟨some 74, _, _, _, _, _⟩) rfl 9 _ rfl g1 11 rfl _ (((HO.out.row (i := 0) rfl).cell 11).trans HU11.out) Tryz.isAgg9 ?_)
                 | (go_at_call 108; ((with_reducible refine (p_addB z.se true H12.out _ HZ.out.se).mono ?_); rintro e w9 ⟨rfl, rfl⟩))
                 | ((with_reducible refine at_load_ (d := 78) ?_); refine wpList_load_c (op := ⟨some 78, _, _, _, _, _⟩) rfl 9 _ rfl g1 11 rfl _ (((HO.out.row (i := 0) rfl).cell 11).trans HU11.out) Tryz.isAgg9 ?_)
                 | ((with_reducible refine at_load_ (d := 82) ?_); refine wpList_load_cg (op := ⟨some 82, _, _, _, _, _⟩) (by rfl) 3 _ rfl g1 0 rfl _ (((HO.out.row (i := 0) rfl).cell 0).trans HU0.out) Tryz.isAgg3 ?_)
                 | ((with_reducible refine at_load_ (d := 86) ?_); refine wpList_load_v (op := ⟨some 86, _, _, _, _, _⟩) rfl 44 _ rfl g1 rfl us _ (HO.out.row (i := 0) rfl) Tryz.underlying44 rfl HSZ.out ?_)
                 | ((with_reducible refine at_load_ (d := 87) ?_); refine wpList_load_v (op := ⟨some 87, _, _, _, _, _⟩) rfl 88 _ rfl g3 rfl (layV f) _ (HO.out.row (i := 1) rfl) Tryz.underlying88 rfl HSL.out ?_)
                 | (go_at_call 109; ((with_reducible refine (p_fitB f HF.out z true H14.out us HU.out HZ.out _ (HM.out.on HO.out.bl)).mono ?_); rintro e w9 ⟨rfl, hb⟩); replace HO := Lib.hid (HO.out.on hb); clear hb))
                go_ret
                exact ⟨by rw [vE_chain, if_neg (by rw [HFF.out]; exact not_not_intro HF.out), if_neg (by rw [H1.out]; decide), if_neg (by rw [H2.out]; decide), if_neg (by rw [H3.out]; decide), if_neg (by rw [H4.out]; decide), if_neg (by rw [H5.out]; decide), if_neg (H6.out), if_neg (by rw [H7.out]; decide), if_neg (by rw [H8.out]; decide), if_neg (by rw [H9.out]; decide), if_neg (by rw [H10.out]; decide), if_neg (by rw [H11.out]; decide), if_neg (by rw [H12.out]; decide), if_neg (H13.out), if_neg (by rw [HFF.out, H14.out]; decide)]; rfl, HO.out.bl⟩
              ·
               have hs := s_ne (s := S z.se) rfl hse
               by_cases h1 : f = 1
               ·
                have d1 : (f == 1) = true := by simpa using h1
                have H13 : Hid (¬ (z.se ≠ [] ∧ z.fm ≠ 1)) := Lib.hid (fun h => h.2 (HFF.out.trans h1))
                have H15 := Lib.hid h1
                clear hse h1
                rcases H140 : fitB f z with _ | _
                all_goals (have H14 := Lib.hid H140; clear H140)
                ·
                 skip
                 go_wp2_with (first
                  | ((with_reducible refine at_load_ (d := 55) ?_); refine wpList_load_c (op := ⟨some 55, _, _, _, _, _⟩) rfl 9 _ rfl g1 7 rfl _ (((HO.out.row (i := 0) rfl).cell 7).trans HU7.out) Tryz.isAgg9 ?_)
                  | (go_at_call 105; ((with_reducible refine (p_birB z.bi true H8.out _ (HM.out.on HO.out.bl) HZ.out.bi).mono ?_); rintro e w9 ⟨rfl, rfl⟩))
                  | ((with_reducible refine at_load_ (d := 60) ?_); refine wpList_load_c (op := ⟨some 60, _, _, _, _, _⟩) rfl 9 _ rfl g1 8 rfl _ (((HO.out.row (i := 0) rfl).cell 8).trans HU8.out) Tryz.isAgg9 ?_)
                  | (go_at_call 106; ((with_reducible refine (p_sexB z.sx true H9.out _ HZ.out.sx).mono ?_); rintro e w9 ⟨rfl, rfl⟩))
                  | ((with_reducible refine at_load_ (d := 65) ?_); refine wpList_load_c (op := ⟨some 65, _, _, _, _, _⟩) rfl 9 _ rfl g1 9 rfl _ (((HO.out.row (i := 0) rfl).cell 9).trans HU9.out) Tryz.isAgg9 ?_)
                  | (go_at_call 107; ((with_reducible refine (p_expB z.ex true H10.out _ (HM.out.on HO.out.bl) HZ.out.ex).mono ?_); rintro e w9 ⟨rfl, hb⟩); replace HO := Lib.hid (HO.out.on hb); clear hb)
                  | ((with_reducible refine at_load_ (d := 70) ?_); refine wpList_load_c (op := ⟨some 70, _, _, _, _, _⟩) rfl 9 _ rfl g1 10 rfl _ (((HO.out.row (i := 0) rfl).cell 10).trans HU10.out) Tryz.isAgg9 ?_)
                  | (go_at_call 108; ((with_reducible refine (p_addB z.op true H11.out _ HZ.out.op).mono ?_); rintro e w9 ⟨rfl, rfl⟩))
                  | ((with_reducible refine at_load_ (d := 74) ?_); refine wpList_load_c (op := ⟨some 74, _, _, _, _, _⟩) rfl 9 _ rfl g1 11 rfl _ (((HO.out.row (i := 0) rfl).cell 11).trans HU11.out) Tryz.isAgg9 ?_)
                  | (go_at_call 108; ((with_reducible refine (p_addB z.se true H12.out _ HZ.out.se).mono ?_); rintro e w9 ⟨rfl, rfl⟩))
                  | ((with_reducible refine at_load_ (d := 78) ?_); refine wpList_load_c (op := ⟨some 78, _, _, _, _, _⟩) rfl 9 _ rfl g1 11 rfl _ (((HO.out.row (i := 0) rfl).cell 11).trans HU11.out) Tryz.isAgg9 ?_)
                  | ((with_reducible refine at_load_ (d := 82) ?_); refine wpList_load_cg (op := ⟨some 82, _, _, _, _, _⟩) (by rfl) 3 _ rfl g1 0 rfl _ (((HO.out.row (i := 0) rfl).cell 0).trans HU0.out) Tryz.isAgg3 ?_)
                  | ((with_reducible refine at_load_ (d := 86) ?_); refine wpList_load_v (op := ⟨some 86, _, _, _, _, _⟩) rfl 44 _ rfl g1 rfl us _ (HO.out.row (i := 0) rfl) Tryz.underlying44 rfl HSZ.out ?_)
                  | ((with_reducible refine at_load_ (d := 87) ?_); refine wpList_load_v (op := ⟨some 87, _, _, _, _, _⟩) rfl 88 _ rfl g3 rfl (layV f) _ (HO.out.row (i := 1) rfl) Tryz.underlying88 rfl HSL.out ?_)
                  | (go_at_call 109; ((with_reducible refine (p_fitB f HF.out z false H14.out us HU.out HZ.out _ (HM.out.on HO.out.bl)).mono ?_); rintro e w9 ⟨rfl, hb⟩); replace HO := Lib.hid (HO.out.on hb); clear hb))
                 go_ret
                 exact ⟨by rw [vE_chain, if_neg (by rw [HFF.out]; exact not_not_intro HF.out), if_neg (by rw [H1.out]; decide), if_neg (by rw [H2.out]; decide), if_neg (by rw [H3.out]; decide), if_neg (by rw [H4.out]; decide), if_neg (by rw [H5.out]; decide), if_neg (H6.out), if_neg (by rw [H7.out]; decide), if_neg (by rw [H8.out]; decide), if_neg (by rw [H9.out]; decide), if_neg (by rw [H10.out]; decide), if_neg (by rw [H11.out]; decide), if_neg (by rw [H12.out]; decide), if_neg (H13.out), if_pos (by rw [HFF.out]; exact H14.out)]; rfl, HO.out.bl⟩
                ·
                 skip
                 go_wp2_with (first
                  | ((with_reducible refine at_load_ (d := 55) ?_); refine wpList_load_c (op := ⟨some 55, _, _, _, _, _⟩) rfl 9 _ rfl g1 7 rfl _ (((HO.out.row (i := 0) rfl).cell 7).trans HU7.out) Tryz.isAgg9 ?_)
                  | (go_at_call 105; ((with_reducible refine (p_birB z.bi true H8.out _ (HM.out.on HO.out.bl) HZ.out.bi).mono ?_); rintro e w9 ⟨rfl, rfl⟩))
                  | ((with_reducible refine at_load_ (d := 60) ?_); refine wpList_load_c (op := ⟨some 60, _, _, _, _, _⟩) rfl 9 _ rfl g1 8 rfl _ (((HO.out.row (i := 0) rfl).cell 8).trans HU8.out) Tryz.isAgg9 ?_)
                  | (go_at_call 106; ((with_reducible refine (p_sexB z.sx true H9.out _ HZ.out.sx).mono ?_); rintro e w9 ⟨rfl, rfl⟩))
                  | ((with_reducible refine at_load_ (d := 65) ?_); refine wpList_load_c (op := ⟨some 65, _, _, _, _, _⟩) rfl 9 _ rfl g1 9 rfl _ (((HO.out.row (i := 0) rfl).cell 9).trans HU9.out) Tryz.isAgg9 ?_)
                  | (go_at_call 107; ((with_reducible refine (p_expB z.ex true H10.out _ (HM.out.on HO.out.bl) HZ.out.ex).mono ?_); rintro e w9 ⟨rfl, hb⟩); replace HO := Lib.hid (HO.out.on hb); clear hb)
                  | ((with_reducible refine at_load_ (d := 70) ?_); refine wpList_load_c (op := ⟨some 70, _, _, _, _, _⟩) rfl 9 _ rfl g1 10 rfl _ (((HO.out.row (i := 0) rfl).cell 10).trans HU10.out) Tryz.isAgg9 ?_)
                  | (go_at_call 108; ((with_reducible refine (p_addB z.op true H11.out _ HZ.out.op).mono ?_); rintro e w9 ⟨rfl, rfl⟩))
                  | ((with_reducible refine at_load_ (d := 74) ?_); refine wpList_load_c (op := ⟨some 74, _, _, _, _, _⟩) rfl 9 _ rfl g1 11 rfl _ (((HO.out.row (i := 0) rfl).cell 11).trans HU11.out) Tryz.isAgg9 ?_)
                  | (go_at_call 108; ((with_reducible refine (p_addB z.se true H12.out _ HZ.out.se).mono ?_); rintro e w9 ⟨rfl, rfl⟩))
                  | ((with_reducible refine at_load_ (d := 78) ?_); refine wpList_load_c (op := ⟨some 78, _, _, _, _, _⟩) rfl 9 _ rfl g1 11 rfl _ (((HO.out.row (i := 0) rfl).cell 11).trans HU11.out) Tryz.isAgg9 ?_)
                  | ((with_reducible refine at_load_ (d := 82) ?_); refine wpList_load_cg (op := ⟨some 82, _, _, _, _, _⟩) (by rfl) 3 _ rfl g1 0 rfl _ (((HO.out.row (i := 0) rfl).cell 0).trans HU0.out) Tryz.isAgg3 ?_)
                  | ((with_reducible refine at_load_ (d := 86) ?_); refine wpList_load_v (op := ⟨some 86, _, _, _, _, _⟩) rfl 44 _ rfl g1 rfl us _ (HO.out.row (i := 0) rfl) Tryz.underlying44 rfl HSZ.out ?_)
                  | ((with_reducible refine at_load_ (d := 87) ?_); refine wpList_load_v (op := ⟨some 87, _, _, _, _, _⟩) rfl 88 _ rfl g3 rfl (layV f) _ (HO.out.row (i := 1) rfl) Tryz.underlying88 rfl HSL.out ?_)
                  | (go_at_call 109; ((with_reducible refine (p_fitB f HF.out z true H14.out us HU.out HZ.out _ (HM.out.on HO.out.bl)).mono ?_); rintro e w9 ⟨rfl, hb⟩); replace HO := Lib.hid (HO.out.on hb); clear hb))
                 go_ret
                 exact ⟨by rw [vE_chain, if_neg (by rw [HFF.out]; exact not_not_intro HF.out), if_neg (by rw [H1.out]; decide), if_neg (by rw [H2.out]; decide), if_neg (by rw [H3.out]; decide), if_neg (by rw [H4.out]; decide), if_neg (by rw [H5.out]; decide), if_neg (H6.out), if_neg (by rw [H7.out]; decide), if_neg (by rw [H8.out]; decide), if_neg (by rw [H9.out]; decide), if_neg (by rw [H10.out]; decide), if_neg (by rw [H11.out]; decide), if_neg (by rw [H12.out]; decide), if_neg (H13.out), if_neg (by rw [HFF.out, H14.out]; decide)]; rfl, HO.out.bl⟩
               ·
                have d1 : (f == 1) = false := by simpa using h1
                have H13 : Hid (z.se ≠ [] ∧ z.fm ≠ 1) := Lib.hid ⟨hse, fun e => h1 (HFF.out.symm.trans e)⟩
                clear hse
                go_wp2_with (first
                 | ((with_reducible refine at_load_ (d := 55) ?_); refine wpList_load_c (op := ⟨some 55, _, _, _, _, _⟩) rfl 9 _ rfl g1 7 rfl _ (((HO.out.row (i := 0) rfl).cell 7).trans HU7.out) Tryz.isAgg9 ?_)
                 | (go_at_call 105; ((with_reducible refine (p_birB z.bi true H8.out _ (HM.out.on HO.out.bl) HZ.out.bi).mono ?_); rintro e w9 ⟨rfl, rfl⟩))
                 | ((with_reducible refine at_load_ (d := 60) ?_); refine wpList_load_c (op := ⟨some 60, _, _, _, _, _⟩) rfl 9 _ rfl g1 8 rfl _ (((HO.out.row (i := 0) rfl).cell 8).trans HU8.out) Tryz.isAgg9 ?_)
                 | (go_at_call 106; ((with_reducible refine (p_sexB z.sx true H9.out _ HZ.out.sx).mono ?_); rintro e w9 ⟨rfl, rfl⟩))
                 | ((with_reducible refine at_load_ (d := 65) ?_); refine wpList_load_c (op := ⟨some 65, _, _, _, _, _⟩) rfl 9 _ rfl g1 9 rfl _ (((HO.out.row (i := 0) rfl).cell 9).trans HU9.out) Tryz.isAgg9 ?_)
                 | (go_at_call 107; ((with_reducible refine (p_expB z.ex true H10.out _ (HM.out.on HO.out.bl) HZ.out.ex).mono ?_); rintro e w9 ⟨rfl, hb⟩); replace HO := Lib.hid (HO.out.on hb); clear hb)
                 | ((with_reducible refine at_load_ (d := 70) ?_); refine wpList_load_c (op := ⟨some 70, _, _, _, _, _⟩) rfl 9 _ rfl g1 10 rfl _ (((HO.out.row (i := 0) rfl).cell 10).trans HU10.out) Tryz.isAgg9 ?_)
                 | (go_at_call 108; ((with_reducible refine (p_addB z.op true H11.out _ HZ.out.op).mono ?_); rintro e w9 ⟨rfl, rfl⟩))
                 | ((with_reducible refine at_load_ (d := 74) ?_); refine wpList_load_c (op := ⟨some 74, _, _, _, _, _⟩) rfl 9 _ rfl g1 11 rfl _ (((HO.out.row (i := 0) rfl).cell 11).trans HU11.out) Tryz.isAgg9 ?_)
                 | (go_at_call 108; ((with_reducible refine (p_addB z.se true H12.out _ HZ.out.se).mono ?_); rintro e w9 ⟨rfl, rfl⟩))
                 | ((with_reducible refine at_load_ (d := 78) ?_); refine wpList_load_c (op := ⟨some 78, _, _, _, _, _⟩) rfl 9 _ rfl g1 11 rfl _ (((HO.out.row (i := 0) rfl).cell 11).trans HU11.out) Tryz.isAgg9 ?_)
                 | ((with_reducible refine at_load_ (d := 82) ?_); refine wpList_load_cg (op := ⟨some 82, _, _, _, _, _⟩) (by rfl) 3 _ rfl g1 0 rfl _ (((HO.out.row (i := 0) rfl).cell 0).trans HU0.out) Tryz.isAgg3 ?_)
                 | ((with_reducible refine at_load_ (d := 86) ?_); refine wpList_load_v (op := ⟨some 86, _, _, _, _, _⟩) rfl 44 _ rfl g1 rfl us _ (HO.out.row (i := 0) rfl) Tryz.underlying44 rfl HSZ.out ?_)
                 | ((with_reducible refine at_load_ (d := 87) ?_); refine wpList_load_v (op := ⟨some 87, _, _, _, _, _⟩) rfl 88 _ rfl g3 rfl (layV f) _ (HO.out.row (i := 1) rfl) Tryz.underlying88 rfl HSL.out ?_))
                go_ret
                exact ⟨by rw [vE_chain, if_neg (by rw [HFF.out]; exact not_not_intro HF.out), if_neg (by rw [H1.out]; decide), if_neg (by rw [H2.out]; decide), if_neg (by rw [H3.out]; decide), if_neg (by rw [H4.out]; decide), if_neg (by rw [H5.out]; decide), if_neg (H6.out), if_neg (by rw [H7.out]; decide), if_neg (by rw [H8.out]; decide), if_neg (by rw [H9.out]; decide), if_neg (by rw [H10.out]; decide), if_neg (by rw [H11.out]; decide), if_neg (by rw [H12.out]; decide), if_pos (H13.out)]; rfl, HO.out.bl⟩
 ·
  have HF := Lib.hid hf
  obtain ⟨f, hff⟩ : ∃ f, z.fm = f := ⟨_, rfl⟩
  rw [hff] at HU0 HF
  have HFF := Lib.hid hff
  clear hf hff
  go_enter Tryz.func63, Tryz.ntmps63
  go_wp2_with (first
   | ((with_reducible refine at_box_ (d := 1) ?_); refine wpList_box_v (op := ⟨some 1, _, _, _, _, _⟩) rfl 44 _ rfl us rfl ?_; intro g1 v1b hf hr; replace HO := Lib.hid (HO.out.new hf hr); clear hf hr)
   | ((with_reducible refine at_load_ (d := 7) ?_); refine wpList_load_c (op := ⟨some 7, _, _, _, _, _⟩) rfl 3 _ rfl g1 0 rfl _ (((HO.out.row (i := 0) rfl).cell 0).trans HU0.out) Tryz.isAgg3 ?_)
   | (go_at_call 92; ((with_reducible refine (layout_none f HF.out _).mono ?_); rintro e w5 ⟨rfl, hb⟩); replace HO := Lib.hid (HO.out.on hb); clear hb)
   | ((with_reducible refine at_alloc_ (d := 3) ?_); refine wpList_alloc_v (op := ⟨some 3, _, _, _, _, _⟩) rfl 88 rfl lay0 info_l ?_; intro g3 v3a hf hr; replace HO := Lib.hid (HO.out.new hf hr); clear hf hr)
   | ((with_reducible refine at_store_ (i := 3) ?_); refine wpList_store_v rfl 88 (.tmp 3) (.tmp 9) rfl g3 lay0 lay0 rfl rfl (HO.out.row (i := 1) rfl) rfl lay0_one size_l ?_; intro v3s9 hw hr; replace HO := Lib.hid (HO.out.set (i := 1) rfl hw hr); clear hw hr))
  go_ret
  exact ⟨by rw [vE_chain, if_pos (by rw [HFF.out]; exact HF.out)]; rfl, HO.out.bl⟩
theorem code_le {x : List UInt8} {n : Nat} (h : codeB x n = true) : x.length ≤ n := by
 unfold codeB at h
 simp only [Bool.and_eq_true, decide_eq_true_eq] at h
 exact h.1.2
theorem ite_zero {c : Prop} [Decidable c] {a b : Int} (ha : a ≠ 0) (h : (if c then a else b) = 0) : ¬ c ∧ b = 0 := by
 by_cases hc : c
 · rw [if_pos hc] at h; exact absurd h ha
 · rw [if_neg hc] at h; exact ⟨hc, h⟩
theorem not_false_true {c : Bool} (h : ¬ c = false) : c = true := by cases c <;> simp_all
theorem vE_ok {z : Zn} (h : vE z = 0) : (1 ≤ z.fm ∧ z.fm ≤ 3) ∧ codeB z.kd 2 = true ∧ codeB z.st 3 = true ∧ (z.su ≠ [] ∧ nameL z.su = true) ∧ nameL z.gi = true ∧ (z.nu ≠ [] ∧ plainB z.nu = true) ∧ z.nu.length ≤ maxN z.fm ∧ codeB z.na 3 = true ∧ birthB z.bi = true ∧ sexB z.sx = true ∧ expB z.ex = true ∧ extraB z.op = true ∧ extraB z.se = true ∧ ¬ (z.se ≠ [] ∧ z.fm ≠ 1) ∧ fitB z.fm z = true := by
 rw [vE_chain] at h
 obtain ⟨h1, h⟩ := ite_zero (by decide) h
 obtain ⟨h2, h⟩ := ite_zero (by decide) h
 obtain ⟨h3, h⟩ := ite_zero (by decide) h
 obtain ⟨h4, h⟩ := ite_zero (by decide) h
 obtain ⟨h5, h⟩ := ite_zero (by decide) h
 obtain ⟨h6, h⟩ := ite_zero (by decide) h
 obtain ⟨h7, h⟩ := ite_zero (by decide) h
 obtain ⟨h8, h⟩ := ite_zero (by decide) h
 obtain ⟨h9, h⟩ := ite_zero (by decide) h
 obtain ⟨h10, h⟩ := ite_zero (by decide) h
 obtain ⟨h11, h⟩ := ite_zero (by decide) h
 obtain ⟨h12, h⟩ := ite_zero (by decide) h
 obtain ⟨h13, h⟩ := ite_zero (by decide) h
 obtain ⟨h14, h⟩ := ite_zero (by decide) h
 obtain ⟨h15, h⟩ := ite_zero (by decide) h
 have q4 := not_false_true h4
 have q6 := not_false_true h6
 rw [Bool.and_eq_true, decide_eq_true_eq] at q4 q6
 exact ⟨Decidable.not_not.1 h1, not_false_true h2, not_false_true h3, q4, not_false_true h5, q6, by omega, not_false_true h8, not_false_true h9, not_false_true h10, not_false_true h11, not_false_true h12, not_false_true h13, h14, not_false_true h15⟩
theorem Bears.fits {z : Zn} (hb : Bears z) (h : vE z = 0) : Fits z := by
 obtain ⟨h1, h2, h3, h4, h5, h6, h7, h8, h9, h10, h11, h12, h13, h14, h15⟩ := vE_ok h
 have m : maxN z.fm ≤ 20 := by unfold maxN; repeat (first | omega | split)
 have s11 := siz_le h1 (k := 11) (by decide)
 have s13 := siz_le h1 (k := 13) (by decide)
 unfold fitB at h15
 simp only [Bool.and_eq_true, decide_eq_true_eq] at h15
 have hop : z.op.length ≤ (dvC z.nu z.op).length := by
  unfold dvC
  split
  · simp; omega
  · exact Nat.le_refl _
 refine ⟨h1, ⟨h4.2, h5, h4.1⟩, hb.su, hb.gi, ?_, ?_, ?_, ?_, ?_, ?_, ?_, ?_, ?_⟩
 · have := code_le h2; omega
 · have := code_le h3; omega
 · omega
 · have := code_le h8; omega
 · unfold birthB at h9
   simp only [Bool.and_eq_true, decide_eq_true_eq] at h9
   omega
 · unfold sexB at h10
   simp only [decide_eq_true_eq] at h10
   rcases h10 with e | e | e <;> rw [e] <;> decide
 · unfold expB psE at h11
   simp only [decide_eq_true_eq] at h11
   rw [if_pos (by decide)] at h11
   by_cases hq : rpOk (S z.ex) = true
   · unfold rpOk at hq
     rw [Bool.and_eq_true, decide_eq_true_eq, S_size] at hq
     omega
   · rw [if_neg hq] at h11; exact absurd h11 (by decide)
 · omega
 · omega
theorem run_enter {P : Program} {f : FuncId} {fn : Func} {c : Code} (hf : P.funcs[f]? = some fn) (hn : fn.name ≠ "runtime.NumGoroutine") (hb : fn.body = some c) (vs : Array Value) (w : World) : (callFunc f vs).run P w = .ok (.enter f vs) w := by
 simp [callFunc, hf, hn, hb]
section
variable {P : Program} {a : Act} {w : World} {K : Act → World → Prop} {Q : Exit → Act → World → Prop} {o : Oper}
theorem o_call2 (f : FuncId) (x y : Operand) (tys : Array TypeId) (ho : o.op = .call { callee := .value (.func f), args := #[x, y], argTypes := tys }) {v1 v2 : Value} (hx : a.eval x = v1) (hy : a.eval y = v2) (hr : (callFunc f #[v1, v2]).run P w = .ok (.enter f #[v1, v2]) w)
 {R : Ending → World → Prop} (h : Calls P f #[v1, v2] w R) (hR : ∀ e w', R e w' → ∃ v, e = .returned v ∧ K (a.put o.dst v) w') : o.wp P a w K Q := by
 have he : a.eval (.func f) = Value.func (.func f) #[] #[] := rfl
 have h1 : (execOp a.eval o).run P w = .ok (.enter f #[v1, v2]) w := by
  simp [execOp, ho, resolve, invoke, hx, hy, he, hr, Deferred.ofValue]
 unfold Oper.wp
 rw [h1, Oper.upon_enter]
 refine h.mono ?_
 intro e w' hq
 obtain ⟨v, rfl, hK⟩ := hR e w' hq
 exact hK
end
end Go.Proofs.YtibahbkjjfmbgaaGreatDoor
