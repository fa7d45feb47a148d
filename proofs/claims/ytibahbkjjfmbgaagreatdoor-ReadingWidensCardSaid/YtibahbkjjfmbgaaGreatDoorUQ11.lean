/-
  What is proved here: the program's fitting: the characters that may stand at a place.
-/
import Derived.Test.YtibahbkjjfmbgaaGreatDoorUQ10
import Derived.Test.YtibahbkjjfmbgaaGreatDoorUX6
import Derived.Test.YtibahbkjjfmbgaaGreatDoorUY7
import Derived.Test.YtibahbkjjfmbgaaGreatDoorUQ1
import Derived.Test.YtibahbkjjfmbgaaGreatDoorUY8
namespace Go.Proofs.YtibahbkjjfmbgaaGreatDoor
open Go.RowKit
set_option linter.unusedVariables false
set_option linter.unusedSimpArgs false
theorem mk_c0 (w : World) : (Instr.makeSlice 59 (.int .i64 0) (.int .i64 0)).run Tryz.prog w = .ok (.slice (some ⟨w.heap.size, 0, none⟩) 0 0) (w.alloc (.cells (List.replicate 0 (Value.int .u8 0)).toArray 5)) := by kernel_rfl
theorem mk_c1 (w : World) : (Instr.makeSlice 59 (.int .i64 0) (.int .i64 1)).run Tryz.prog w = .ok (.slice (some ⟨w.heap.size, 0, none⟩) 0 1) (w.alloc (.cells (List.replicate 1 (Value.int .u8 0)).toArray 5)) := by kernel_rfl
theorem mk_c2 (w : World) : (Instr.makeSlice 59 (.int .i64 0) (.int .i64 2)).run Tryz.prog w = .ok (.slice (some ⟨w.heap.size, 0, none⟩) 0 2) (w.alloc (.cells (List.replicate 2 (Value.int .u8 0)).toArray 5)) := by kernel_rfl
theorem mk_c3 (w : World) : (Instr.makeSlice 59 (.int .i64 0) (.int .i64 3)).run Tryz.prog w = .ok (.slice (some ⟨w.heap.size, 0, none⟩) 0 3) (w.alloc (.cells (List.replicate 3 (Value.int .u8 0)).toArray 5)) := by kernel_rfl
theorem mk_c4 (w : World) : (Instr.makeSlice 59 (.int .i64 0) (.int .i64 4)).run Tryz.prog w = .ok (.slice (some ⟨w.heap.size, 0, none⟩) 0 4) (w.alloc (.cells (List.replicate 4 (Value.int .u8 0)).toArray 5)) := by kernel_rfl
theorem mk_cap4 (n : Nat) (hn : n ≤ 4) (w : World) : (Instr.makeSlice 59 (.int .i64 0) (.int .i64 (n : Int))).run Tryz.prog w = .ok (.slice (some ⟨w.heap.size, 0, none⟩) 0 n) (w.alloc (.cells (List.replicate n (Value.int .u8 0)).toArray 5)) := by
 have h : n = 0 ∨ n = 1 ∨ n = 2 ∨ n = 3 ∨ n = 4 := by omega
 rcases h with rfl | rfl | rfl | rfl | rfl
 · exact mk_c0 w
 · exact mk_c1 w
 · exact mk_c2 w
 · exact mk_c3 w
 · exact mk_c4 w
theorem wpList_mk {P : Program} {ops : Array Oper} {rest : List Oper} {op : Oper} {a : Act} {w : World} {Q : Exit → Act → World → Prop} (hgd : op.guard = none) (ty : TypeId) (x y : Operand) (ho : op.op = .makeSlice ty x y) (vx vy v : Value) (hx : a.eval x = vx) (hy : a.eval y = vy)
 (o : Obj) (hm : (Instr.makeSlice ty vx vy).run P w = .ok v (w.alloc o)) (hK : ∀ w', w' = w.alloc o → wpList P ops Q rest (a.put op.dst v) w') : wpList P ops Q (op :: rest) a w := by
 refine wpList_plain hgd fun K hK2 => ?_
 unfold Oper.wp execOp
 simp only [ho, hx, hy, Sem.run_bind, hm, Result.andThen_ok]
 exact hK2 _ _ (hK _ rfl)
theorem fil_take (f : UInt8 → Bool) (x : List UInt8) {j : Nat} (hj : j < x.length) : (x.take (j + 1)).filter f = (x.take j).filter f ++ if f (x.getD j 0) = true then [x.getD j 0] else [] := by
 rw [List.take_add_one, List.filter_append, List.getElem?_eq_getElem hj, List.getD_eq_getElem?_getD, List.getElem?_eq_getElem hj]
 congr 1
 simp only [Option.toList_some, Option.getD_some, List.filter_cons, List.filter_nil]
set_option maxHeartbeats 3200000 in
set_option maxRecDepth 20000 in
theorem p_fitw (c p : Nat) (hc : c < 256) (w : World) (hG : TabG 0 w) :
 Calls Tryz.prog 72 #[.int .u8 (c : Int), .int .u8 (p : Int)] w fun e w' => e = .returned (.string (S (fitL c p))) ∧ Below w.heap.size w w' := by
 obtain ⟨i0, hi, hz0, hz1, hz2⟩ := info_parts info_u8b
 have hn4 := (fit_sorted (k := 0) hc).2.2
 have hfit : fitL c p = if ((simL c).filter fun b => mayP b.toNat p) = [] then [UInt8.ofNat c] else (simL c).filter fun b => mayP b.toNat p := rfl
 obtain ⟨x, hx⟩ : ∃ x, simL c = x := ⟨_, rfl⟩
 have H1 := Lib.hid (p_sim c hc w hG)
 rw [hx] at hn4 hfit H1
 obtain ⟨f, hf⟩ : ∃ f : UInt8 → Bool, (fun b => mayP b.toNat p) = f := ⟨_, rfl⟩
 rw [hf] at hfit
 obtain ⟨sx, hsx⟩ : ∃ sx, S x = sx := ⟨_, rfl⟩
 obtain ⟨n, hn⟩ : ∃ n, x.length = n := ⟨_, rfl⟩
 have hsz2 : sx.size = n := by rw [← hsx, S_size, hn]
 have hsz : (sx.size : Int) = (n : Int) := by omega
 have HIX : Hid (∀ k, k < n → ∀ w, (Instr.index 9 (.string sx) (.int .i64 (k : Int))).run Tryz.prog w = .ok (.int .u8 ((x.getD k 0).toNat : Int)) w) := Lib.hid (by rw [← hsx, ← hn]; exact fun k hk w => str_byte x k hk w)
 have HMY : Hid (∀ k b, f (x.getD k 0) = b → ∀ w, Calls Tryz.prog 118 #[.int .u8 ((x.getD k 0).toNat : Int), .int .u8 (p : Int)] w fun e w' => e = .returned (.bool b) ∧ w = w') := Lib.hid (fun k b hb w => p_may _ p b (by rw [← hb, ← hf]) w)
 rw [hn] at hn4
 rw [hsx] at H1
 have HF := Lib.hid (show _ ∧ _ from ⟨hfit, hn⟩)
 have HC := Lib.hid hc
 clear hfit hx hf hsx hn hG hc
 go_enter Tryz.func72, Tryz.ntmps72
 go_wp2_with (first
  | (go_at_call 10; ((with_reducible refine H1.out.mono ?_); rintro e w1 ⟨rfl, hb⟩); have HB := Lib.hid hb; clear hb)
  | ((with_reducible refine at_make_ (d := 12) ?_); refine wpList_mk rfl _ _ _ rfl _ _ _ rfl rfl _ (mk_cap4 n hn4 _) ?_; intro W hW2; have HWW := Lib.hid hW2; clear hW2))
 obtain ⟨B, hB⟩ : ∃ B, w1.heap.size = B := ⟨_, rfl⟩
 have HW : Hid (W.ownsRow B 5 1 (.slice (some ⟨B, 0, none⟩) 0 n) 0 (Us []) ∧ Below w.heap.size w W ∧ B ≤ W.heap.size ∧ w.heap.size ≤ B) := Lib.hid (by
  rw [HWW.out, ← hB]
  refine ⟨⟨rfl, .inr ⟨w1.heap.size, n, _, rfl, Nat.le_refl _, heap_alloc_new w1 _, Nat.zero_le _, by unfold maxLen; omega, by simp, by simp [Us]⟩⟩, HB.out.alloc HB.out.size _, by simp, HB.out.size⟩)
 rw [hB]
 clear hB HB H1 HWW
 go_loopw [15, 6] (fun i v wr => ∃ (j m : Nat) (A : Option Addr) (cp : Nat), j ≤ n ∧ m ≤ j ∧ i = .int .i64 (j : Int) ∧ v = .slice A m cp ∧ Hid (((x.take j).filter f).length = m ∧ wr.ownsRow B 5 1 (.slice A m cp) m (Us ((x.take j).filter f)) ∧ Below w.heap.size w wr ∧ B ≤ wr.heap.size)) (fun i _ _ => n - (intOf i).toNat)
 case atStart => exact ⟨0, 0, _, _, by omega, by omega, rfl, rfl, Lib.hid ⟨rfl, HW.out.1, HW.out.2.1, HW.out.2.2.1⟩⟩
 case round =>
  obtain ⟨j, m, A, cp, hj, hm, rfl, rfl, HH⟩ := hrel
  by_cases hlt : j < n
  ·
   have hj0 : (j : Int) < (n : Int) := by omega
   have hix := HIX.out j hlt
   have hft := fil_take f x (j := j) (by rw [HF.out.2]; exact hlt)
   obtain ⟨b, hb⟩ : ∃ b, f (x.getD j 0) = b := ⟨_, rfl⟩
   have HMJ := Lib.hid (HMY.out j b hb)
   rw [hb] at hft
   obtain ⟨xb, hxb⟩ : ∃ xb, x.getD j 0 = xb := ⟨_, rfl⟩
   rw [hxb] at hft hix HMJ
   have HFT := Lib.hid hft
   clear hft hb hxb
   rcases b with _ | _
   · go_wp2_with (first
      | ((with_reducible refine at_any_ (d := 20) ?_); refine wpList_ix rfl _ _ _ rfl (v := .int .u8 (xb.toNat : Int)) rfl rfl (hix _) ?_)
      | (go_at_call 118; ((with_reducible refine (HMJ.out _).mono ?_); rintro e w2 ⟨rfl, rfl⟩))
      | ((with_reducible refine at_any_ (d := 29) ?_); refine wpList_add1 rfl _ _ _ rfl j rfl rfl (by omega) ?_))
     go_roundw
     case rel =>
      have e : (x.take (j + 1)).filter f = (x.take j).filter f := by rw [HFT.out]; simp
      exact ⟨j + 1, m, A, cp, by omega, by omega, by first | rfl | go_num, rfl, Lib.hid (by rw [e]; exact HH.out)⟩
     case measure => simp [intOf]; omega
   ·
    go_wp2_with (first
     | ((with_reducible refine at_any_ (d := 20) ?_); refine wpList_ix rfl _ _ _ rfl (v := .int .u8 (xb.toNat : Int)) rfl rfl (hix _) ?_)
     | ((with_reducible refine at_any_ (d := 26) ?_); refine wpList_ix rfl _ _ _ rfl (v := .int .u8 (xb.toNat : Int)) rfl rfl (hix _) ?_)
     | (go_at_call 118; ((with_reducible refine (HMJ.out _).mono ?_); rintro e w2 ⟨rfl, rfl⟩))
     | ((with_reducible refine at_call_ (d := 28) ?_); (refine wpList_append_own _ rfl (.tmp 23) (.tmp 27) 59 rfl B 5 i0 (.int .u8 0) 1 1 Tryz.underlying59 hi hz0 hz1 hz2 rfl (by decide) (.slice A m cp) m _ rfl (HH.out.2.1.alloc _) ⟨_, 0, none⟩ 1 1 [_] rfl rfl (news_of_one _ _ _) (one_cell1 _) (by unfold maxLen; omega) (by omega) (by have := HH.out.2.2.2; simp; omega) ?_; intro v3 w3 ho3 hg3 _; obtain ⟨A3, c3, rfl⟩ := own_len ho3; have HR := Lib.hid (show _ ∧ _ from ⟨ho3, hg3⟩); clear ho3 hg3))
     | ((with_reducible refine at_any_ (d := 29) ?_); refine wpList_add1 rfl _ _ _ rfl j rfl rfl (by omega) ?_))
    go_roundw
    case rel =>
     obtain ⟨h1, h2⟩ := HR.out
     have e : (x.take (j + 1)).filter f = (x.take j).filter f ++ [xb] := by rw [HFT.out]; simp
     refine ⟨j + 1, m + 1, A3, c3, by omega, by omega, by first | rfl | go_num, rfl, Lib.hid ⟨by rw [e, List.length_append, HH.out.1]; rfl, ?_, ?_, Nat.le_trans (by have := HH.out.2.2.2; simp; omega) h2.size⟩⟩
     · rw [e, Us_append]; exact h1
     · exact (HH.out.2.2.1.alloc HH.out.2.2.1.size _).grown h2 (by have := HH.out.2.2.1.size; simp; omega) (fun k e => Nat.le_trans HW.out.2.2.2 (HH.out.2.1.lt k e).1)
    case measure => simp [intOf]; omega
  ·
   obtain rfl : j = n := by omega
   obtain ⟨q1, q2, q3, q4⟩ := HH.out
   rw [List.take_of_length_le (by rw [HF.out.2]; exact Nat.le_refl _)] at q1 q2
   by_cases hm0 : m = 0
   · subst hm0
     have hnil : x.filter f = [] := List.eq_nil_of_length_eq_zero q1
     have hfe : fitL c p = [UInt8.ofNat c] := by rw [HF.out.1, if_pos hnil]
     rw [hnil] at q2
     have HQ := Lib.hid (show _ ∧ _ ∧ _ ∧ _ from ⟨q2, q3, q4, hfe⟩)
     clear q1 q2 q3 q4 hnil hfe
     go_wp2_with (first
      | ((with_reducible refine at_call_ (d := 36) ?_); (refine wpList_append_own _ rfl (.tmp 33) (.tmp 35) 59 rfl B 5 i0 (.int .u8 0) 1 1 Tryz.underlying59 hi hz0 hz1 hz2 rfl (by decide) (.slice A 0 cp) 0 _ rfl (HQ.out.1.alloc _) ⟨_, 0, none⟩ 1 1 [_] rfl rfl (news_of_one _ _ _) (one_cell1 _) (by unfold maxLen; omega) (by omega) (by have := HQ.out.2.2.1; simp; omega) ?_; intro v3 w3 ho3 hg3 _; obtain ⟨A3, c3, rfl⟩ := own_len ho3; have HR := Lib.hid (show _ ∧ _ from ⟨ho3, hg3⟩); have hcw := run_conv w3 w3.heap.size A3 [UInt8.ofNat c] (by have h1 := Sees.of_own ho3; have e : Us [UInt8.ofNat c] = [.int .u8 (c : Int)] := (by have := HC.out; simp [Us, U]; omega); rw [e]; exact h1) 1 c3 rfl; clear ho3 hg3)))
     go_ret
     refine ⟨by rw [HQ.out.2.2.2]; rfl, ?_⟩
     obtain ⟨h1, h2⟩ := HR.out
     exact (HQ.out.2.1.alloc HQ.out.2.1.size _).grown h2 (by have := HQ.out.2.1.size; simp; omega) (fun k e => Nat.le_trans HW.out.2.2.2 (HQ.out.1.lt k e).1)
   · have hm1 : ¬ ((m : Int) = 0) := by omega
     have hne : x.filter f ≠ [] := fun e => hm0 (by rw [← q1, e]; rfl)
     have hfe : fitL c p = x.filter f := by rw [HF.out.1, if_neg hne]
     have hcw := run_conv wr wr.heap.size A (x.filter f) (Sees.of_own q2) m cp q1.symm
     have HQ := Lib.hid (show _ ∧ _ from ⟨q3, hfe⟩)
     clear q1 q2 q3 q4 hne hfe hm0
     go_wp2
     go_ret
     exact ⟨by rw [HQ.out.2]; rfl, HQ.out.1⟩
theorem run_fitw (vs : Array Value) (w : World) : (callFunc 72 vs).run Tryz.prog w = .ok (.enter 72 vs) w :=
 run_enter (c := _) Tryz.func72 (by decide) rfl vs w
theorem o_idx {P : Program} {a : Act} {w : World} {K : Act → World → Prop} {Q : Exit → Act → World → Prop} {o : Oper} (T : TypeId) (x y : Operand) (ho : o.op = .index T x y) {v vx vy : Value} (hx : a.eval x = vx) (hy : a.eval y = vy) (hr : (Instr.index T vx vy).run P w = .ok v w) (hK : K (a.put o.dst v) w) : o.wp P a w K Q := by
 unfold Oper.wp execOp
 simp only [ho, hx, hy, Sem.run_bind, hr, Result.andThen_ok, Sem.run_pure]
 exact hK
theorem mk_strsN (n : Nat) (h : n ≤ 1000) (w : World) : (Instr.makeSlice 25 (.int .i64 (n : Int)) (.int .i64 (n : Int))).run Tryz.prog w = .ok (.slice (some ⟨w.heap.size, 0, none⟩) n n) (w.alloc (.cells (List.replicate n (Value.string ⟨#[]⟩)).toArray 9)) := by
 rw [← made_list]
 exact run_make_row' 25 9 (.string ⟨#[]⟩) 16 Tryz.underlying25 info_st rfl .i64 .i64 n (by omega) (by omega) w
theorem ix_str (g n k : Nat) (hk : k < n) (w : World) : (Instr.indexAt 25 (.slice (some ⟨g, 0, none⟩) n n) (.int .i64 (k : Int))).run Tryz.prog w = .ok (.pointer (some ⟨g, k, none⟩)) w := by
 have h0 : (k : Int) < (n : Int) := by omega
 have h1 : (0 : Int) ≤ (k : Int) := by omega
 simp [go_sem, Addr.add, h0, h1]
 intro h; exact h.symm
theorem widL_len (x p : List UInt8) : (widL x p).length = x.length := by simp [widL]
theorem widL_get (x p : List UInt8) {i : Nat} (hi : i < x.length) : (widL x p).getD i [] = fitL (x.getD i 0).toNat (p.getD i 0).toNat := by simp [widL, List.getD, hi]
set_option maxHeartbeats 3200000 in
set_option maxRecDepth 20000 in
theorem p_widened (x p : List UInt8) (n : Nat) (hx : x.length = n) (hp : p.length = n) (hn : n ≤ 64) (w : World) (hG : TabG 0 w) :
 Calls Tryz.prog 39 #[.string (S x), .string (S p)] w fun e w' => ∃ g, e = .returned (.slice (some ⟨g, 0, none⟩) n n) ∧ w.heap.size ≤ g ∧ RowV w' g (strV (widL x p)) ∧ Below w.heap.size w w' := by
 obtain ⟨sx, hsx⟩ : ∃ sx, S x = sx := ⟨_, rfl⟩
 obtain ⟨sp, hsp⟩ : ∃ sp, S p = sp := ⟨_, rfl⟩
 obtain ⟨L, hL⟩ : ∃ L, widL x p = L := ⟨_, rfl⟩
 have hLn : L.length = n := by rw [← hL, widL_len, hx]
 have hsz2 : sx.size = n := by rw [← hsx, S_size, hx]
 have hsz : (sx.size : Int) = (n : Int) := by omega
 have HIX : Hid (∀ k, k < n → ∀ w, (Instr.index 9 (.string sx) (.int .i64 (k : Int))).run Tryz.prog w = .ok (.int .u8 ((x.getD k 0).toNat : Int)) w) := Lib.hid (by rw [← hsx, ← hx]; exact fun k hk w => str_byte x k hk w)
 have HIP : Hid (∀ k, k < n → ∀ w, (Instr.index 9 (.string sp) (.int .i64 (k : Int))).run Tryz.prog w = .ok (.int .u8 ((p.getD k 0).toNat : Int)) w) := Lib.hid (by rw [← hsp, ← hp]; exact fun k hk w => str_byte p k hk w)
 have HFT : Hid (∀ k, k < n → ∀ w, TabG 0 w → Calls Tryz.prog 72 #[.int .u8 ((x.getD k 0).toNat : Int), .int .u8 ((p.getD k 0).toNat : Int)] w fun e w' => e = .returned (.string (S (L.getD k []))) ∧ Below w.heap.size w w') := Lib.hid (fun k hk w hG => by
  rw [← hL, widL_get x p (by rw [hx]; exact hk)]
  exact p_fitw _ _ (UInt8.toNat_lt _) w hG)
 rw [hsx, hsp, hL]
 have HG := Lib.hid hG
 have HL := Lib.hid hLn
 have HO := Lib.hid (Own.start w)
 clear hsx hsp hL hLn hx hp hG
 go_enter Tryz.func39, Tryz.ntmps39
 go_wp2_with (first
  | ((with_reducible refine at_make_ (d := 9) ?_); refine wpList_make_v rfl _ _ _ rfl _ _ rfl rfl (List.replicate n (Value.string ⟨#[]⟩)) n _ (mk_strsN n (by omega) _) ?_; intro g5 vs hf hr; replace HO := Lib.hid (HO.out.new hf hr); clear hf hr))
 go_loopw [12] (fun i wq => ∃ (j : Nat), j ≤ n ∧ i = .int .i64 (j : Int) ∧ Hid (Own w wq [(g5, svV L j n)])) (fun i _ => n - (intOf i).toNat)
 case atStart => exact ⟨0, by omega, rfl, Lib.hid (by rw [svV_zero]; exact HO.out)⟩
 case round =>
  clear HO
  obtain ⟨j, hj, rfl, HO⟩ := hrel
  by_cases hlt : j < n
  ·
   have hj0 : (j : Int) < (n : Int) := by omega
   have h1 := HIX.out j hlt
   have h2 := HIP.out j hlt
   have h3 := HFT.out j hlt
   obtain ⟨ca, hca⟩ : ∃ ca, (x.getD j 0).toNat = ca := ⟨_, rfl⟩
   obtain ⟨cb, hcb⟩ : ∃ cb, (p.getD j 0).toNat = cb := ⟨_, rfl⟩
   obtain ⟨sf, hsf⟩ : ∃ sf, S (L.getD j []) = sf := ⟨_, rfl⟩
   rw [hca] at h1 h3
   rw [hcb] at h2 h3
   rw [hsf] at h3
   have HSV : Hid ((svV L j n).set j (.string sf) = svV L (j + 1) n) := Lib.hid (by rw [← hsf]; exact svV_set hlt)
   have H1 := Lib.hid h1
   have H2 := Lib.hid h2
   have H3 := Lib.hid h3
   clear h1 h2 h3 hca hcb hsf
   go_wp2_with fail
   refine region_setC (by kernel_rfl) _ (fun (_ : Unit) i => ([.slice (some ⟨g5, 0, none⟩) n n, .int .i64 (j : Int), .string sx, .int .i64 (j : Int), .int .u8 (ca : Int), .string sp, .int .i64 (j : Int), .int .u8 (cb : Int), .string sf, .pointer (some ⟨g5, j, none⟩), undef] : List Value).getD i undef)
    (fun _ T cur => Own w cur [(g5, if T 10 = true then svV L (j + 1) n else svV L j n)]) (by kernel_rfl) () (by simp only [Bool.false_eq_true, ite_false]; exact HO.out.on (below_drewN _ _ 1)) ?_ ?_
   ·
    refine ops_all (allI.cons ?_ (allI.cons ?_ (allI.cons ?_ (allI.cons ?_ (allI.cons ?_ (allI.cons ?_ (allI.cons ?_ (allI.cons ?_ (allI.cons ?_ (allI.cons ?_ (allI.cons ?_ allI.nil))))))))))) <;> intro b T cur a hW hSi hdep hS hC <;> refine ⟨(), fun _ _ => rfl, ?_⟩
    · exact o_mv (.tmp 5) rfl (hS.before hC hSi 5 rfl) ⟨rfl, by simpa using hW⟩
    · exact o_mv (.tmp 6) rfl (hS.before hC hSi 6 rfl) ⟨rfl, by simpa using hW⟩
    · exact o_mv (.tmp 0) rfl (hS.before hC hSi 0 rfl) ⟨rfl, by simpa using hW⟩
    · exact o_mv (.tmp 6) rfl (hS.before hC hSi 6 rfl) ⟨rfl, by simpa using hW⟩
    · exact o_idx _ (.tmp 17) (.tmp 18) rfl (hS.get 2 (dep_at hdep 2 rfl) rfl rfl) (hS.get 3 (dep_at hdep 3 rfl) rfl rfl) (H1.out _) ⟨rfl, by simpa using hW⟩
    · exact o_mv (.tmp 1) rfl (hS.before hC hSi 1 rfl) ⟨rfl, by simpa using hW⟩
    · exact o_mv (.tmp 6) rfl (hS.before hC hSi 6 rfl) ⟨rfl, by simpa using hW⟩
    · exact o_idx _ (.tmp 20) (.tmp 21) rfl (hS.get 5 (dep_at hdep 5 rfl) rfl rfl) (hS.get 6 (dep_at hdep 6 rfl) rfl rfl) (H2.out _) ⟨rfl, by simpa using hW⟩
    · refine o_call2 _ (.tmp 19) (.tmp 22) _ rfl (hS.get 4 (dep_at hdep 4 rfl) rfl rfl) (hS.get 7 (dep_at hdep 7 rfl) rfl rfl) (run_fitw _ _) (H3.out cur (HG.out.on hW.bl)) ?_
      rintro e w' ⟨rfl, hb⟩
      exact ⟨_, rfl, rfl, by simpa using hW.on hb⟩
    · exact o_ix _ (.tmp 15) (.tmp 16) rfl (hS.get 0 (dep_at hdep 0 rfl) rfl rfl) (hS.get 1 (dep_at hdep 1 rfl) rfl rfl) (ix_str g5 n j hlt _) ⟨rfl, by simpa using hW⟩
    · rw [hSi] at hW
      replace hW : Own w cur [(g5, svV L j n)] := hW
      refine wp_store_at 9 (.tmp 24) (.tmp 23) rfl g5 j _ (.string sf) (hS.get 9 (dep_at hdep 9 rfl) rfl rfl) (hS.get 8 (dep_at hdep 8 rfl) rfl rfl) (hW.row (i := 0) rfl) (by rw [svV_len]; exact hlt) rfl rfl size_st ?_
      intro w' hw hr
      rw [HSV.out] at hr
      exact ⟨rfl, by simpa using hW.set (i := 0) rfl hw hr⟩
   · intro b cur T hall hW
     rw [hall 10 (by decide)] at hW
     replace hW : Own w cur [(g5, svV L (j + 1) n)] := hW
     have HO2 := Lib.hid hW
     clear hW HO
     simp only [putAll, Act.put]
     simp
     go_wp2_with (first
      | ((with_reducible refine at_any_ (d := 25) ?_); refine wpList_add1 rfl _ _ _ rfl j rfl rfl (by omega) ?_))
     go_roundw
     case rel => exact ⟨j + 1, by omega, by first | rfl | go_num, HO2⟩
     case measure => simp [intOf]; omega
  · obtain rfl : j = n := by omega
    go_wp2
    go_ret
    have h1 := HO.out.row (i := 0) rfl
    rw [svV_all HL.out] at h1
    exact ⟨g5, rfl, HO.out.ge (i := 0) rfl, h1, HO.out.bl⟩
set_option maxHeartbeats 1000000 in
theorem p_ixw (ls : List (List UInt8)) (A : Option Addr) (c : Nat) (hl : ls.length ≤ 10000000000000) (w : World) (hs : Strs w A ls) (hc : ∀ x ∈ ls, ∀ b, (!validL x) = b → ∀ w, (Calls Tryz.prog 36 #[.string (S x)] w fun e w' => e = .returned (.bool b) ∧ w = w')) :
 Calls Tryz.prog 71 #[.slice A ls.length c, .func (.func 36) #[] #[]] w fun e w' => (∃ v : Int, e = .returned (.int .i64 v) ∧ decide (0 ≤ v) = ls.any (fun x => !validL x)) ∧ w = w' := by
 have HS := Lib.hid hs
 have HC := Lib.hid hc
 obtain ⟨n, hn⟩ : ∃ n, ls.length = n := ⟨_, rfl⟩
 have HN := Lib.hid hn
 rw [hn] at hl ⊢
 clear hs hc hn
 go_enter Tryz.func71, Tryz.ntmps71
 go_wp2
 go_loopw [8] (fun i wr => ∃ (j : Nat), j ≤ n ∧ i = .int .i64 (j : Int) ∧ Hid (w = wr ∧ ∀ i, i < j → (fun x => !validL x) (ls.getD i []) = false)) (fun i _ => n - (intOf i).toNat)
 case atStart => exact ⟨0, by omega, rfl, Lib.hid ⟨rfl, fun i hi => by omega⟩⟩
 case round =>
  obtain ⟨j, hj, rfl, HR⟩ := hrel
  obtain rfl := HR.out.1
  by_cases hlt : j < n
  ·
   obtain ⟨ab, ao, rfl, hab, hcell⟩ := HS.out.cell (by rw [HN.out]; omega)
   have hcl := hcell j (by rw [HN.out]; exact hlt)
   obtain ⟨x, hx⟩ : ∃ x, ls.getD j [] = x := ⟨_, rfl⟩
   rw [hx] at hcl
   have HX := Lib.hid hx
   have HCC := Lib.hid (HC.out x (by rw [← hx, List.getD_eq_getElem?_getD, List.getElem?_eq_getElem (by rw [HN.out]; exact hlt)]; exact List.getElem_mem _))
   clear hx hcell hab
   rcases hp : (fun x => !validL x) x with _ | _
   · have HP := Lib.hid hp
     clear hp
     go_wp2_with (go_at_call 36; ((with_reducible refine (HCC.out false HP.out _).mono ?_); rintro e w9 ⟨rfl, rfl⟩))
     go_roundw
     case rel => exact ⟨j + 1, by omega, by go_num, Lib.hid ⟨by first | rfl | trivial, fun i hi => by
      by_cases e : i = j
      · rw [e, HX.out]; exact HP.out
      · exact HR.out.2 i (by omega)⟩⟩
     case measure => simp [intOf]; omega
   · have HP := Lib.hid hp
     clear hp
     go_wp2_with (go_at_call 36; ((with_reducible refine (HCC.out true HP.out _).mono ?_); rintro e w9 ⟨rfl, rfl⟩))
     go_ret
     refine ⟨⟨(j : Int), rfl, ?_⟩, rfl⟩
     have h1 : ls.any (fun x => !validL x) = true := by
      rw [List.any_eq_true]
      refine ⟨x, ?_, HP.out⟩
      rw [← HX.out, List.getD_eq_getElem?_getD, List.getElem?_eq_getElem (by rw [HN.out]; exact hlt)]
      exact List.getElem_mem _
     rw [h1]; simp
  · obtain rfl : j = n := by omega
    go_wp2
    go_ret
    refine ⟨⟨-1, rfl, ?_⟩, rfl⟩
    have h1 : ls.any (fun x => !validL x) = false := by
     rw [List.any_eq_false]
     intro x hx
     obtain ⟨i, hi, rfl⟩ := List.getElem_of_mem hx
     have := HR.out.2 i (by rw [← HN.out]; exact hi)
     rw [List.getD_eq_getElem?_getD, List.getElem?_eq_getElem hi] at this
     simpa using this
    rw [h1]; rfl
theorem p_cfw (ls : List (List UInt8)) (A : Option Addr) (c n : Nat) (hn : ls.length = n) (hl : ls.length ≤ 10000000000000) (w : World) (hs : Strs w A ls) (b : Bool) (hb : ls.any (fun x => !validL x) = b) (hc : ∀ x ∈ ls, ∀ b, (!validL x) = b → ∀ w, (Calls Tryz.prog 36 #[.string (S x)] w fun e w' => e = .returned (.bool b) ∧ w = w')) :
 Calls Tryz.prog 38 #[.slice A n c, .func (.func 36) #[] #[]] w fun e w' => e = .returned (.bool b) ∧ w = w' := by
 subst hn
 have H := Lib.hid (p_ixw  ls A c hl w hs hc)
 have HB := Lib.hid hb
 clear hs hb hc hl
 go_enter Tryz.func38, Tryz.ntmps38
 go_wp2_with (go_at_call 71; ((with_reducible refine H.out.mono ?_); rintro e w9 ⟨⟨v, rfl, hv⟩, rfl⟩))
 go_ret
 refine ⟨?_, rfl⟩
 rw [← HB.out]
 rfl
theorem p_isoth (x : List UInt8) (hx : x.length ≤ 1000) (b : Bool) (hb : (!validL x) = b) (w : World) : Calls Tryz.prog 36 #[.string (S x)] w fun e w' => e = .returned (.bool b) ∧ w = w' := by
 have H := Lib.hid (p_valid (S x) x rfl w (by rw [S_size]; unfold maxLen; omega))
 obtain ⟨v, hv⟩ : ∃ v, validL x = v := ⟨_, rfl⟩
 rw [hv] at H hb
 obtain ⟨sx, hsx⟩ : ∃ sx, S x = sx := ⟨_, rfl⟩
 rw [hsx] at H ⊢
 subst hb
 clear hv hsx hx
 go_enter Tryz.func36, Tryz.ntmps36
 go_wp2_with (go_at_call 37; ((with_reducible refine H.out.mono ?_); rintro e w9 ⟨rfl, hw⟩); rw [hw]; clear hw)
 go_ret
 exact ⟨rfl, rfl⟩
theorem run_widened (vs : Array Value) (w : World) : (callFunc 39 vs).run Tryz.prog w = .ok (.enter 39 vs) w :=
 run_enter (c := _) Tryz.func39 (by decide) rfl vs w
theorem mk_slsN (n : Nat) (h : n ≤ 1000) (w : World) : (Instr.makeSlice 27 (.int .i64 (n : Int)) (.int .i64 (n : Int))).run Tryz.prog w = .ok (.slice (some ⟨w.heap.size, 0, none⟩) n n) (w.alloc (.cells (List.replicate n nilS).toArray 25)) := by
 rw [← made_list]
 exact run_make_row' 27 25 nilS 24 Tryz.underlying27 info_ss rfl .i64 .i64 n (by omega) (by omega) w
theorem ix_sls (g n k : Nat) (hk : k < n) (w : World) : (Instr.indexAt 27 (.slice (some ⟨g, 0, none⟩) n n) (.int .i64 (k : Int))).run Tryz.prog w = .ok (.pointer (some ⟨g, k, none⟩)) w := by
 have h0 : (k : Int) < (n : Int) := by omega
 have h1 : (0 : Int) ≤ (k : Int) := by omega
 simp [go_sem, Addr.add, h0, h1]
 intro h; exact h.symm
theorem ix_strO (g o n c k : Nat) (hk : k < n) (w : World) : (Instr.indexAt 25 (.slice (some ⟨g, o, none⟩) n c) (.int .i64 (k : Int))).run Tryz.prog w = .ok (.pointer (some ⟨g, o + k, none⟩)) w := by
 have h0 : (k : Int) < (n : Int) := by omega
 have h1 : (0 : Int) ≤ (k : Int) := by omega
 simp [go_sem, Addr.add, h0, h1]
structure WdI (w cur : World) (g5 : Nat) (vs : List Value) (O : List (List (List UInt8))) (j : Nat) : Prop where
 bl : Below w.heap.size w cur
 ge : w.heap.size ≤ g5
 row : RowV cur g5 vs
 len : vs.length = O.length
 dn : ∀ i, i < j → ∃ g, vs[i]? = some (Value.slice (some ⟨g, 0, none⟩) (O.getD i []).length (O.getD i []).length) ∧ g ≠ g5 ∧ RowV cur g (strV (O.getD i []))
theorem WdI.on {w cur cur' : World} {g5 : Nat} {vs : List Value} {O : List (List (List UInt8))} {j : Nat} (h : WdI w cur g5 vs O j) (hb : Below cur.heap.size cur cur') : WdI w cur' g5 vs O j :=
 ⟨below_on h.bl hb, h.ge, h.row.on hb, h.len, fun i hi => by
  obtain ⟨g, h1, h2, h3⟩ := h.dn i hi
  exact ⟨g, h1, h2, h3.on hb⟩⟩
theorem WdI.put {w cur cur' : World} {g5 g : Nat} {vs : List Value} {O : List (List (List UInt8))} {j : Nat} (h : WdI w cur g5 vs O j) (hj : j < O.length) (hg : g ≠ g5) (hr : RowV cur g (strV (O.getD j []))) (hw : Wr cur cur' g5)
 (hr5 : RowV cur' g5 (vs.set j (Value.slice (some ⟨g, 0, none⟩) (O.getD j []).length (O.getD j []).length))) : WdI w cur' g5 (vs.set j (Value.slice (some ⟨g, 0, none⟩) (O.getD j []).length (O.getD j []).length)) O (j + 1) := by
 refine ⟨Wr.bl h.bl hw h.ge, h.ge, hr5, by rw [List.length_set]; exact h.len, fun i hi => ?_⟩
 by_cases e : i = j
 · subst e
   exact ⟨g, by rw [List.getElem?_set_self (by rw [h.len]; exact hj)], hg, hr.wr hw hg⟩
 · obtain ⟨k, h1, h2, h3⟩ := h.dn i (by omega)
   exact ⟨k, by rw [List.getElem?_set_ne (Ne.symm e)]; exact h1, h2, h3.wr hw h2⟩
theorem WdI.rdg {w cur : World} {g5 : Nat} {vs : List Value} {O : List (List (List UInt8))} (h : WdI w cur g5 vs O O.length) : Rdg cur (some ⟨g5, 0, none⟩) O :=
 ⟨vs, h.row.sees0, h.len, fun i r hr => by
  have hi : i < O.length := (List.getElem?_eq_some_iff.1 hr).1
  have e : O.getD i [] = r := by simp [List.getD, hr]
  obtain ⟨g, h1, _, h3⟩ := h.dn i hi
  rw [e] at h1 h3
  exact ⟨_, _, h1, h3.sees0⟩⟩
theorem o_call2y {P : Program} {a : Act} {w : World} {K : Act → World → Prop} {Q : Exit → Act → World → Prop} {o : Oper} (f : FuncId) (x y : Operand) (tys : Array TypeId) (ho : o.op = .call { callee := .value (.func f), args := #[x, y], argTypes := tys }) {v1 v2 : Value} (hx : a.eval x = v1) (hy : a.eval y = v2) (hr : (callFunc f #[v1, v2]).run P w = .ok (.enter f #[v1, v2]) w)
 {Post : Ending → World → Prop} (h : Calls P f #[v1, v2] w Post) (hK : ∀ e w', Post e w' → ∃ v, e = .returned v ∧ K (a.put o.dst v) w') : o.wp P a w K Q := by
 have he : a.eval (.func f) = Value.func (.func f) #[] #[] := rfl
 have h1 : (execOp a.eval o).run P w = .ok (.enter f #[v1, v2]) w := by
  simp [execOp, ho, resolve, invoke, hx, hy, he, hr, Deferred.ofValue]
 unfold Oper.wp
 rw [h1, Oper.upon_enter]
 refine h.mono ?_
 intro e w' hp
 obtain ⟨v, rfl, hk⟩ := hK e w' hp
 exact hk
theorem WdI.start {w cur : World} {g5 n : Nat} {v : Value} {O : List (List (List UInt8))} (hf : Fresh w cur g5) (hr : RowV cur g5 (List.replicate n v)) (hn : (List.replicate n v).length = O.length) : WdI w cur g5 (List.replicate n v) O 0 :=
 ⟨hf.bw, hf.ge (Below.refl _ _), hr, hn, fun i hi => by omega⟩
theorem Strs.cell2 {w : World} {b o : Nat} {r : List (List UInt8)} (h : Strs w (some ⟨b, o, none⟩) r) {i : Nat} (hi : i < r.length) : w.cell? ⟨b, o + i, none⟩ = some (.string (S (r.getD i []))) := by
 obtain ⟨b', o', e, hc⟩ := h.cell1 hi
 cases e
 exact hc
def WdW (w : World) (g5 : Nat) (us : List Value) (O : List (List (List UInt8))) (j : Nat) (o : List (List UInt8)) (m b : Nat) (T : Nat → Bool) (cur : World) : Prop :=
 if T 12 = true then WdI w cur g5 (us.set j (.slice (some ⟨b, 0, none⟩) m m)) O (j + 1) else WdI w cur g5 us O j ∧ (T 10 = true → b ≠ g5 ∧ RowV cur b (strV o))
section
variable {w cur cur' : World} {g5 j m b : Nat} {us : List Value} {O : List (List (List UInt8))} {o : List (List UInt8)} {T : Nat → Bool}
theorem WdW.start (h : WdI w cur g5 us O j) : WdW w g5 us O j o m b (fun _ => false) cur := by
 unfold WdW; rw [if_neg (by decide)]; exact ⟨h, fun h => by cases h⟩
theorem WdW.bl (h : WdW w g5 us O j o m b T cur) : Below w.heap.size w cur := by
 unfold WdW at h; split at h
 · exact h.bl
 · exact h.1.bl
theorem WdW.keep (h : WdW w g5 us O j o m b T cur) {i : Nat} (h1 : i ≠ 10) (h2 : i ≠ 12) : WdW w g5 us O j o m b (fun k => T k || k == i) cur := by
 have e1 : (T 10 || 10 == i) = T 10 := by simp [Ne.symm h1]
 have e2 : (T 12 || 12 == i) = T 12 := by simp [Ne.symm h2]
 unfold WdW at h ⊢
 show if (T 12 || 12 == i) = true then _ else _ ∧ ((T 10 || 10 == i) = true → _)
 rw [e1, e2]
 exact h
theorem WdW.row (h : WdW w g5 us O j o m b T cur) (ht : T 12 = false) : RowV cur g5 us := by
 unfold WdW at h; rw [ht, if_neg (by decide)] at h; exact h.1.row
theorem WdW.made {g : Nat} (h : WdW w g5 us O j o m b T cur) (ht : T 12 = false) (hg : cur.heap.size ≤ g) (hr : RowV cur' g (strV o)) (hb : Below cur.heap.size cur cur') : WdW w g5 us O j o m g (fun k => T k || k == 10) cur' := by
 have e2 : (T 12 || 12 == 10) = false := by rw [ht]; rfl
 unfold WdW at h ⊢
 rw [ht, if_neg (by decide)] at h
 show if (T 12 || 12 == 10) = true then _ else _
 rw [e2, if_neg (by decide)]
 exact ⟨h.1.on hb, fun _ => ⟨by have := h.1.row.lt; omega, hr⟩⟩
theorem WdW.put (h : WdW w g5 us O j o m b T cur) (ht : T 12 = false) (h10 : T 10 = true) (ho : O.getD j [] = o) (hm : o.length = m) (hj : j < O.length) (hw : Wr cur cur' g5) (hr : RowV cur' g5 (us.set j (.slice (some ⟨b, 0, none⟩) m m))) : WdW w g5 us O j o m b (fun k => T k || k == 12) cur' := by
 have e2 : (T 12 || 12 == 12) = true := by simp
 unfold WdW at h ⊢
 rw [ht, if_neg (by decide)] at h
 show if (T 12 || 12 == 12) = true then _ else _
 rw [e2, if_pos rfl]
 subst ho; subst hm
 obtain ⟨h1, h2⟩ := h.2 h10
 exact h.1.put hj h1 h2 hw hr
theorem WdW.done (h : WdW w g5 us O j o m b T cur) (ht : T 12 = true) : WdI w cur g5 (us.set j (.slice (some ⟨b, 0, none⟩) m m)) O (j + 1) := by
 unfold WdW at h; rw [ht, if_pos rfl] at h; exact h
end
theorem widS_len (X P : List (List UInt8)) : (widS X P).length = X.length := by simp [widS]
theorem widS_get (X P : List (List UInt8)) {i : Nat} (hi : i < X.length) : (widS X P).getD i [] = widL (X.getD i []) (P.getD i []) := by simp [widS, List.getD, hi]
set_option maxHeartbeats 6400000 in
set_option maxRecDepth 20000 in
theorem p_widen (X : List (List UInt8)) (A : Option Addr) (n c : Nat) (hn : X.length = n) (hn2 : n ≤ 10000000000000) (w : World) (hG : TabG 0 w) (hs : Strs w A X) :
 Calls Tryz.prog 13 #[.slice A n c] w fun e w' => ∃ A' c', e = .returned (.tuple #[.slice A' (widO X).length c', .int .i64 (widE X)]) ∧ Rdg w' A' (widO X) ∧ Below w.heap.size w w' := by
 obtain ⟨f, hf, hf3⟩ := shape_nat X
 have HPL := Lib.hid (p_places_s X A n c hn hn2 w hs)
 have HS := Lib.hid hs
 have HG := Lib.hid hG
 by_cases hf0 : f = 0
 ·
  subst hf0
  have he : widE X = 2 := by unfold widE; rw [if_pos (by rw [hf]; rfl)]
  have ho : widO X = [] := by unfold widO; rw [he, if_neg (by decide)]
  have hk : ¬ fmt3 (X.map List.length) < 3 := fun h => by
   have := (shape_lens X).2 ((fmt_lens _).1 h)
   rw [hf] at this; exact this rfl
  rw [he, ho]
  clear he ho hf hs hG hn hn2
  obtain ⟨k, hkk⟩ : ∃ k, fmt3 (X.map List.length) = k := ⟨_, rfl⟩
  rw [hkk] at HPL hk
  have HK := Lib.hid hk
  clear hk hkk hf3
  go_enter Tryz.func13, Tryz.ntmps13
  go_wp2_with (first
   | (go_at_call 35; ((with_reducible refine HPL.out.mono ?_); intro e w1 hpl; obtain ⟨_, h2, hb⟩ := hpl; obtain rfl := h2 HK.out; have HB := Lib.hid hb; clear h2 hb))
   | fail)
  go_ret2
  exact ⟨none, 0, rfl, ⟨[], .inl rfl, rfl, fun i r h => by simp at h⟩, HB.out⟩
 ·
  obtain ⟨hf1, hk, hlens⟩ := shape_fmt hf hf0
  have hn3 : n = (fmPl (3 - f)).length := by rw [← hn, show X.length = (X.map List.length).length by simp, hlens]; simp
  have hn4 : n ≤ 3 := by rw [hn3]; rcases hf1 with rfl | rfl | rfl <;> decide
  have hn5 : 2 ≤ n := by rw [hn3]; rcases hf1 with rfl | rfl | rfl <;> decide
  obtain ⟨P, hP⟩ : ∃ P, fmPl (3 - f) = P := ⟨_, rfl⟩
  have hrow : ∀ i, i < n → (X.getD i []).length = (P.getD i []).length ∧ (X.getD i []).length ≤ 44 := fun i hi => by
   have h1 : (X.map List.length).getD i 0 = (X.getD i []).length := by simp [List.getD, show i < X.length by omega]
   have h2 : ((fmPl (3 - f)).map List.length).getD i 0 = ((fmPl (3 - f)).getD i []).length := by simp [List.getD, show i < (fmPl (3 - f)).length by omega]
   have h3 : (X.getD i []).length = (P.getD i []).length := by rw [← h1, hlens, h2, hP]
   refine ⟨h3, ?_⟩
   rw [← h1]
   have h4 := (shape_lens X).1 (by rw [hf]; omega)
   have h5 : n = (X.map List.length).length := by simp [hn]
   rcases h4 with e | e | e <;> rw [e] at h5 ⊢ <;> simp at h5
   · obtain rfl | rfl | rfl : i = 0 ∨ i = 1 ∨ i = 2 := by omega
     all_goals decide
   · obtain rfl | rfl : i = 0 ∨ i = 1 := by omega
     all_goals decide
   · obtain rfl | rfl : i = 0 ∨ i = 1 := by omega
     all_goals decide
  rw [hk] at HPL
  have HPf := Lib.hid (show _ ∧ _ from ⟨hP, hn3.symm⟩)
  rw [hP] at hn3
  have hk3 : 3 - f < 3 := by omega
  have hmem : ∀ x ∈ X, x.length ≤ 1000 := fun x hx => by
   obtain ⟨i, hi, rfl⟩ := List.getElem_of_mem hx
   have := (hrow i (by omega)).2
   rw [List.getD_eq_getElem?_getD, List.getElem?_eq_getElem hi, Option.getD_some] at this
   omega
  obtain ⟨b, hb⟩ : ∃ b, (X.any fun x => !validL x) = b := ⟨_, rfl⟩
  have HCF := Lib.hid (fun w hs => p_cfw X A c n hn (by rw [hn]; exact hn2) w hs b hb (fun x hx b hb w => p_isoth x (hmem x hx) b hb w))
  have HK := Lib.hid hk3
  rcases b with _ | _
  ·
   have he : widE X = 0 := by unfold widE; rw [if_neg (by rw [hf]; omega), hb]; rfl
   have ho : widO X = widS X P := by unfold widO; rw [he, if_pos rfl, hk, hP]
   rw [he, ho]
   obtain ⟨O, hO⟩ : ∃ O, widS X P = O := ⟨_, rfl⟩
   have hOl : O.length = n := by rw [← hO, widS_len, hn]
   have HWD := Lib.hid (fun i hi w hG => p_widened (X.getD i []) (P.getD i []) (O.getD i []).length (by rw [← hO, widS_get X P (by rw [hn]; exact hi), widL_len]) (by rw [← hO, widS_get X P (by rw [hn]; exact hi), widL_len, (hrow i hi).1]) (by rw [← hO, widS_get X P (by rw [hn]; exact hi), widL_len]; have := (hrow i hi).2; omega) w hG)
   have HOX : Hid (∀ i, i < n → widL (X.getD i []) (P.getD i []) = O.getD i []) := Lib.hid (fun i hi => by rw [← hO, widS_get X P (by rw [hn]; exact hi)])
   rw [hO]
   have HX := Lib.hid (show _ ∧ _ ∧ _ from ⟨hn, hn3.symm, hOl⟩)
   rw [hOl]
   obtain ⟨ab, ao, rfl, hab, hxc⟩ := hs.cell (by omega)
   clear he ho hf hs hG hn hn2 hk hlens hn3 hP hrow hmem hb hO hOl hf1 hk3 hf0 hf3 hab hxc
   go_enter Tryz.func13, Tryz.ntmps13
   go_wp2_with (first
    | (go_at_call 35; ((with_reducible refine HPL.out.mono ?_); intro e w1 hpl; obtain ⟨h1, _, hb⟩ := hpl; obtain ⟨A2, rfl, hs2⟩ := h1 HK.out; rw [HPf.out.2]; rw [HPf.out.1] at hs2; have HB := Lib.hid hb; have HS2 := Lib.hid hs2; have HS1 := Lib.hid (HS.out.on hb); have HG1 := Lib.hid (HG.out.on hb); clear h1 hb hs2))
    | (go_at_call 38; ((with_reducible refine (HCF.out _ HS1.out).mono ?_); rintro e w2 ⟨rfl, rfl⟩))
    | ((with_reducible refine at_make_ (d := 21) ?_); refine wpList_make_v rfl _ _ _ rfl _ _ rfl rfl (List.replicate n nilS) n _ (mk_slsN n (by omega) _) ?_; intro g7 vs hf hr; have HF := Lib.hid (WdI.start (O := O) hf hr (by rw [List.length_replicate]; exact HX.out.2.2.symm)); clear hf hr))
   go_loopw [24] (fun i wq => ∃ (j : Nat) (us : List Value), j ≤ n ∧ i = .int .i64 (j : Int) ∧ Hid (WdI w1 wq g7 us O j)) (fun i _ => n - (intOf i).toNat)
   case atStart => exact ⟨0, _, by omega, rfl, HF⟩
   case round =>
    clear HF
    obtain ⟨j, us, hj, rfl, HW⟩ := hrel
    by_cases hlt : j < n
    ·
     have hj0 : (j : Int) < (n : Int) := by omega
     have hjO : j < O.length := by rw [HX.out.2.2]; exact hlt
     have h3 := HWD.out j hlt
     obtain ⟨pb, po, rfl, _, _⟩ := HS2.out.cell (by rw [HX.out.2.1]; omega)
     have hxc := Lib.hid (fun cur (hb : Below w1.heap.size w1 cur) => (HS1.out.on hb).cell2 (i := j) (by rw [HX.out.1]; exact hlt))
     have hpc := Lib.hid (fun cur (hb : Below w1.heap.size w1 cur) => (HS2.out.on hb).cell2 (i := j) (by rw [HX.out.2.1]; exact hlt))
     have hox := HOX.out j hlt
     obtain ⟨sx, hsx⟩ : ∃ sx, S (X.getD j []) = sx := ⟨_, rfl⟩
     obtain ⟨sp, hsp⟩ : ∃ sp, S (P.getD j []) = sp := ⟨_, rfl⟩
     obtain ⟨o, ho⟩ : ∃ o, O.getD j [] = o := ⟨_, rfl⟩
     obtain ⟨m, hm⟩ : ∃ m, o.length = m := ⟨_, rfl⟩
     rw [hox, hsx, hsp, ho, hm] at h3
     rw [hsx] at hxc
     rw [hsp] at hpc
     have H3 := Lib.hid h3
     have HOM := Lib.hid (show _ ∧ _ ∧ _ from ⟨ho, hm, hjO⟩)
     clear h3 hox hsx hsp ho hm hjO
     go_wp2_with fail
     refine region_setX (by kernel_rfl) _ (fun (b : Nat) i => ([.slice (some ⟨g7, 0, none⟩) n n, .int .i64 (j : Int), .slice (some ⟨ab, ao, none⟩) n c, .int .i64 (j : Int), .pointer (some ⟨ab, ao + j, none⟩), .string sx, .slice (some ⟨pb, po, none⟩) n n, .int .i64 (j : Int), .pointer (some ⟨pb, po + j, none⟩), .string sp, .slice (some ⟨b, 0, none⟩) m m, .pointer (some ⟨g7, j, none⟩), undef] : List Value).getD i undef)
      (WdW w1 g7 us O j o m) (by kernel_rfl) 0 (WdW.start (HW.out.on (below_drewN _ _ 1))) ?_ ?_
     ·
      refine ops_all (allI.cons ?_ (allI.cons ?_ (allI.cons ?_ (allI.cons ?_ (allI.cons ?_ (allI.cons ?_ (allI.cons ?_ (allI.cons ?_ (allI.cons ?_ (allI.cons ?_ (allI.cons ?_ (allI.cons ?_ (allI.cons ?_ allI.nil))))))))))))) <;> intro b T cur a hW hSi hdep hS hC
      · exact o_mv (.tmp 7) rfl (hS.before hC hSi 7 rfl) ⟨b, fun _ _ => rfl, rfl, hW.keep (by decide) (by decide)⟩
      · exact o_mv (.tmp 8) rfl (hS.before hC hSi 8 rfl) ⟨b, fun _ _ => rfl, rfl, hW.keep (by decide) (by decide)⟩
      · exact o_mv (.tmp 0) rfl (hS.before hC hSi 0 rfl) ⟨b, fun _ _ => rfl, rfl, hW.keep (by decide) (by decide)⟩
      · exact o_mv (.tmp 8) rfl (hS.before hC hSi 8 rfl) ⟨b, fun _ _ => rfl, rfl, hW.keep (by decide) (by decide)⟩
      · exact o_ix _ (.tmp 29) (.tmp 30) rfl (hS.get 2 (dep_at hdep 2 rfl) rfl rfl) (hS.get 3 (dep_at hdep 3 rfl) rfl rfl) (ix_strO ab ao n c j hlt _) ⟨b, fun _ _ => rfl, rfl, hW.keep (by decide) (by decide)⟩
      · exact o_ld _ (.tmp 31) rfl (hS.get 4 (dep_at hdep 4 rfl) rfl rfl) (hxc.out cur hW.bl) (fun w => by kernel_rfl) ⟨b, fun _ _ => rfl, rfl, hW.keep (by decide) (by decide)⟩
      · exact o_mv (.tmp 4) rfl (hS.before hC hSi 4 rfl) ⟨b, fun _ _ => rfl, rfl, hW.keep (by decide) (by decide)⟩
      · exact o_mv (.tmp 8) rfl (hS.before hC hSi 8 rfl) ⟨b, fun _ _ => rfl, rfl, hW.keep (by decide) (by decide)⟩
      · exact o_ix _ (.tmp 33) (.tmp 34) rfl (hS.get 6 (dep_at hdep 6 rfl) rfl rfl) (hS.get 7 (dep_at hdep 7 rfl) rfl rfl) (ix_strO pb po n n j hlt _) ⟨b, fun _ _ => rfl, rfl, hW.keep (by decide) (by decide)⟩
      · exact o_ld _ (.tmp 35) rfl (hS.get 8 (dep_at hdep 8 rfl) rfl rfl) (hpc.out cur hW.bl) (fun w => by kernel_rfl) ⟨b, fun _ _ => rfl, rfl, hW.keep (by decide) (by decide)⟩
      · have h12 : T 12 = false := by
         rcases hq : T 12 with _ | _
         · rfl
         · have := dep_at (hC 12 _ rfl hq) 10 rfl
           rw [this] at hSi; cases hSi
        refine o_call2y _ (.tmp 32) (.tmp 36) _ rfl (hS.get 5 (dep_at hdep 5 rfl) rfl rfl) (hS.get 9 (dep_at hdep 9 rfl) rfl rfl) (run_widened _ _) (H3.out cur (HG1.out.on hW.bl)) ?_
        rintro e w' ⟨g, rfl, hg, hr, hb⟩
        refine ⟨_, rfl, g, fun i hi => ?_, rfl, hW.made h12 hg hr hb⟩
        have n10 : i ≠ 10 := fun e => by rw [e, hSi] at hi; cases hi
        match i, n10 with
        | 0, _ | 1, _ | 2, _ | 3, _ | 4, _ | 5, _ | 6, _ | 7, _ | 8, _ | 9, _ | 11, _ | 12, _ => rfl
        | k + 13, _ => rfl
      · exact o_ix _ (.tmp 27) (.tmp 28) rfl (hS.get 0 (dep_at hdep 0 rfl) rfl rfl) (hS.get 1 (dep_at hdep 1 rfl) rfl rfl) (ix_sls g7 n j hlt _) ⟨b, fun _ _ => rfl, rfl, hW.keep (by decide) (by decide)⟩
      · have h10 := dep_at hdep 10 rfl
        refine wp_store_at 25 (.tmp 38) (.tmp 37) rfl g7 j us (.slice (some ⟨b, 0, none⟩) m m) (hS.get 11 (dep_at hdep 11 rfl) rfl rfl) (hS.get 10 h10 rfl rfl) (hW.row hSi) (by rw [HW.out.len]; exact HOM.out.2.2) rfl rfl (by kernel_rfl) ?_
        intro w' hw hr
        exact ⟨b, fun _ _ => rfl, rfl, hW.put hSi h10 HOM.out.1 HOM.out.2.1 HOM.out.2.2 hw hr⟩
     · intro b cur T hall hW
       have HO2 := Lib.hid (hW.done (hall 12 (by decide)))
       clear hW HW
       simp only [putAll, Act.put]
       simp
       go_wp2_with (first
        | ((with_reducible refine at_any_ (d := 39) ?_); refine wpList_add1 rfl _ _ _ rfl j rfl rfl (by omega) ?_))
       go_roundw
       case rel => exact ⟨j + 1, _, by omega, by first | rfl | go_num, HO2⟩
       case measure => simp [intOf]; omega
    · obtain rfl : j = n := by omega
      go_wp2
      go_ret2
      have h1 := HW.out
      rw [← HX.out.2.2] at h1
      exact ⟨_, _, rfl, h1.rdg, below_on HB.out h1.bl⟩
  · have he : widE X = 12 := by unfold widE; rw [if_neg (by rw [hf]; omega), hb]; rfl
    have ho : widO X = [] := by unfold widO; rw [he, if_neg (by decide)]
    rw [he, ho]
    clear he ho hf hs hG hn hn2 hk hlens hn3 hP hrow hmem hb hf1 hk3 hf0 hf3
    go_enter Tryz.func13, Tryz.ntmps13
    go_wp2_with (first
     | (go_at_call 35; ((with_reducible refine HPL.out.mono ?_); intro e w1 hpl; obtain ⟨h1, _, hb⟩ := hpl; obtain ⟨A2, rfl, hs2⟩ := h1 HK.out; rw [HPf.out.2]; have HB := Lib.hid hb; have HS1 := Lib.hid (HS.out.on hb); clear h1 hb hs2))
     | (go_at_call 38; ((with_reducible refine (HCF.out _ HS1.out).mono ?_); rintro e w2 ⟨rfl, rfl⟩)))
    go_ret2
    exact ⟨none, 0, rfl, ⟨[], .inl rfl, rfl, fun i r h => by simp at h⟩, HB.out⟩
end Go.Proofs.YtibahbkjjfmbgaaGreatDoor
