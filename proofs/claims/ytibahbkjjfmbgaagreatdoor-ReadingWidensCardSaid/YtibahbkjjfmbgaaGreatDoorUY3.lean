/-
  What is proved here: the composite check digit as the program computes it of lines that lie in memory; strings in memory.
-/
import Derived.Test.YtibahbkjjfmbgaaGreatDoorUY1
import Derived.Test.YtibahbkjjfmbgaaGreatDoorUY2
import Derived.Maps.StringElems
import Derived.Maps.OwnOps
import Derived.Test.YtibahbkjjfmbgaaGreatDoorUQ8
namespace Go.Proofs.YtibahbkjjfmbgaaGreatDoor
open Go.RowKit
set_option linter.unusedVariables false
def strV (ls : List (List UInt8)) : List Value := ls.map fun x => Value.string (S x)
def Strs (w : World) (A : Option Addr) (ls : List (List UInt8)) : Prop := Sees w w.heap.size A (strV ls)
theorem strV_len (ls : List (List UInt8)) : (strV ls).length = ls.length := by simp [strV]
theorem Strs.on {w w' : World} {A : Option Addr} {ls : List (List UInt8)} (h : Strs w A ls) (hb : Below w.heap.size w w') : Strs w' A ls := Sees.on h hb
theorem Strs.cell {w : World} {A : Option Addr} {ls : List (List UInt8)} (h : Strs w A ls) (h0 : 0 < ls.length) : ∃ b o, A = some ⟨b, o, none⟩ ∧ b < w.heap.size ∧ ∀ j, j < ls.length → w.cell? ⟨b, o + j, none⟩ = some (.string (S (ls.getD j []))) := by
 obtain ⟨b, o, e, hb, hc⟩ := Sees.at_ (k := 0) h (by rw [strV_len]; exact h0)
 refine ⟨b, o, e, hb, fun j hj => ?_⟩
 rw [hc j (by rw [strV_len]; exact hj)]
 unfold strV
 rw [List.getElem?_map, List.getElem?_eq_getElem hj, List.getD_eq_getElem?_getD, List.getElem?_eq_getElem hj]
 rfl
def LinesOf (f : Int) (ls : List (List UInt8)) : Prop := ls.length = cntN f ∧ ∀ j, j < cntN f → (ls.getD j []).length = widN f
def cmV (f : Int) : List Value := (cmps f).flatMap plcV
def plV (f : Int) : List Value := (plcs f).flatMap plcV
theorem lay_cmV {f : Int} (h : 1 ≤ f ∧ f ≤ 3) : ((layV f).drop 49).take 12 = cmV f ∧ (cmV f).length = 12 := by
 have h : f = 1 ∨ f = 2 ∨ f = 3 := by omega
 rcases h with rfl | rfl | rfl <;> exact ⟨rfl, rfl⟩
theorem lay_plV {f : Int} (h : 1 ≤ f ∧ f ≤ 3) : ((layV f).drop 4).take 45 = plV f ∧ (plV f).length = 45 := by
 have h : f = 1 ∨ f = 2 ∨ f = 3 := by omega
 rcases h with rfl | rfl | rfl <;> exact ⟨rfl, rfl⟩
theorem idx_gen {t e : TypeId} {n k : Nat} {vs : List Value} (hu : Tryz.prog.underlying t = some (.array n e)) (hz : ∀ w, (Go.sizeOf e).run Tryz.prog w = .ok 3 w) (ha : ∀ w, (isAgg e).run Tryz.prog w = .ok true w) (hk : k < n) (w : World) :
 (Instr.index t (.agg vs.toArray) (.int .i64 (k : Int))).run Tryz.prog w = .ok (.agg ((vs.drop (k * 3)).take 3).toArray) w := by
 simp [Instr.index, asIntOf, run_underlying hu, hz, ha, go_sem, part]
 intro h
 omega
theorem idx_cmp {f : Int} (h : 1 ≤ f ∧ f ≤ 3) {k : Nat} (hk : k < 4) (w : World) : (Instr.index 86 (.agg (cmV f).toArray) (.int .i64 (k : Int))).run Tryz.prog w = .ok (.agg (plcV ((cmps f).getD k (0, 0, 0))).toArray) w := by
 have h : f = 1 ∨ f = 2 ∨ f = 3 := by omega
 have hk : k = 0 ∨ k = 1 ∨ k = 2 ∨ k = 3 := by omega
 rcases h with rfl | rfl | rfl <;> rcases hk with rfl | rfl | rfl | rfl <;> exact idx_gen Tryz.underlying86 Tryz.sizeOf84 Tryz.isAgg84 (by decide) w
theorem idx_plc {f : Int} (h : 1 ≤ f ∧ f ≤ 3) {k : Nat} (hk : k < 15) (w : World) : (Instr.index 85 (.agg (plV f).toArray) (.int .i64 (k : Int))).run Tryz.prog w = .ok (.agg (plcV (plc f k)).toArray) w := by
 have h : f = 1 ∨ f = 2 ∨ f = 3 := by omega
 have hk : k = 0 ∨ k = 1 ∨ k = 2 ∨ k = 3 ∨ k = 4 ∨ k = 5 ∨ k = 6 ∨ k = 7 ∨ k = 8 ∨ k = 9 ∨ k = 10 ∨ k = 11 ∨ k = 12 ∨ k = 13 ∨ k = 14 := by omega
 rcases h with rfl | rfl | rfl <;> rcases hk with rfl | rfl | rfl | rfl | rfl | rfl | rfl | rfl | rfl | rfl | rfl | rfl | rfl | rfl | rfl <;> exact idx_gen Tryz.underlying85 Tryz.sizeOf84 Tryz.isAgg84 (by decide) w
theorem size_c4 : (Tryz.prog.info? 86).map (·.size) = some 12 := by kernel_rfl
theorem size_p15 : (Tryz.prog.info? 85).map (·.size) = some 45 := by kernel_rfl
theorem Own.pre {w cur : World} {L M : List (Nat × List Value)} (h : Own w cur (L ++ M)) : Own w cur L :=
 ⟨h.1, fun i g vs e => h.2.1 i g vs (by rw [List.getElem?_append_left (List.getElem?_eq_some_iff.1 e).1]; exact e), fun i j g g' vs vs' e1 e2 hne => h.2.2 i j g g' vs vs' (by rw [List.getElem?_append_left (List.getElem?_eq_some_iff.1 e1).1]; exact e1) (by rw [List.getElem?_append_left (List.getElem?_eq_some_iff.1 e2).1]; exact e2) hne⟩
theorem sub_ext {ls : List (List UInt8)} {T : ByteArray} {p : Nat × Nat × Nat} (h : T = S (ls.getD p.1 [])) : T.extract p.2.1 p.2.2 = S (subL ls p) := by rw [h, S_extract]; rfl
set_option maxHeartbeats 800000 in
set_option maxRecDepth 20000 in
theorem p_comp (f : Int) (h : 1 ≤ f ∧ f ≤ 3) (A : Option Addr) (c : Nat) (ls : List (List UInt8)) (w : World) (hM : Mm w) (hs : Strs w A ls) (hl : LinesOf f ls) :
 Calls Tryz.prog 61 #[.agg (layV f).toArray, .slice A ls.length c] w fun e w' => e = .returned (.string (S (dgL (cmpT f ls)))) ∧ Below w.heap.size w w' := by
 have hcn : 0 < ls.length := by rw [hl.1]; unfold cntN; repeat (first | omega | split)
 obtain ⟨ab, ao, rfl, hab, hcell⟩ := hs.cell hcn
 have HK := Lib.hid (show 49 + 12 ≤ (layV f).length ∧ ((layV f).drop 49).take 12 = cmV f ∧ (Tryz.prog.info? 86).map (·.size) = some (cmV f).length from ⟨by rw [layV_len h]; decide, (lay_cmV h).1, by rw [(lay_cmV h).2]; exact size_c4⟩)
 have HI := Lib.hid (fun (k : Nat) (hk : k < 4) (w : World) => idx_cmp h hk w)
 have HC := Lib.hid (show _ ∧ _ ∧ _ from ⟨hab, hcell, hM⟩)
 have HL := Lib.hid (show _ ∧ _ from ⟨h, hl⟩)
 have hlen : ls.length = cntN f := hl.1
 have hc3 : cntN f ≤ 3 := by unfold cntN; repeat (first | omega | split)
 obtain ⟨n, hn⟩ : ∃ n, ls.length = n := ⟨_, rfl⟩
 rw [hn] at hlen hcn ⊢
 have HN := Lib.hid hn
 clear hab hcell hs hl hM h hn
 have HO := Lib.hid (Own.start w)
 go_enter Tryz.func61, Tryz.ntmps61
 go_wp2_with (first
  | ((with_reducible refine at_box_ (d := 2) ?_); refine wpList_box_v (op := ⟨some 2, _, _, _, _, _⟩) rfl 88 _ rfl (layV f) rfl ?_; intro g2 v2b hf hr; replace HO := Lib.hid (HO.out.new hf hr); clear hf hr)
  | ((with_reducible refine at_load_ (d := 9) ?_); refine wpList_load_part (op := ⟨some 9, _, _, _, _, _⟩) rfl 86 _ rfl g2 49 rfl (layV f) 12 (cmV f) _ (HO.out.row (i := 0) rfl) HK.out.1 HK.out.2.1 Tryz.underlying86 rfl HK.out.2.2 ?_))
 go_loopw [5, 10] (fun tt i wr => ∃ (k : Nat) (T : ByteArray), k ≤ 4 ∧ i = .int .i64 (k : Int) ∧ tt = .string T ∧ Hid (T = S (((cmps f).take k).flatMap (subL ls))) ∧ Hid (T.size ≤ 44 * k) ∧ Hid (Own w wr [(g2, layV f)])) (fun _ i _ => 4 - (intOf i).toNat)
 case atStart => exact ⟨0, ⟨#[]⟩, by omega, rfl, rfl, Lib.hid rfl, Lib.hid (by decide), HO⟩
 case round =>
  obtain ⟨k, T, hk, rfl, rfl, HT, HZ, HO⟩ := hrel
  by_cases hlt : k < 4
  · obtain ⟨q, hq⟩ : ∃ q, (cmps f).getD k (0, 0, 0) = q := ⟨_, rfl⟩
    obtain ⟨o1, o2, o3⟩ := cmp_ok HL.out.1 hlt
    have hix := fun w => HI.out k hlt w
    rw [hq] at o1 o2 o3 hix
    have hw : widN f ≤ 44 := by unfold widN; repeat (first | omega | split)
    have HW := Lib.hid (HL.out.2.2 q.1 o1)
    have q1 : q.1 < n := by omega
    have q2 : q.2.2 ≤ 44 := by omega
    have q3 : q.2.1 ≤ q.2.2 := o2
    have HQ := Lib.hid (show (cmps f).getD k (0, 0, 0) = q ∧ q.2.2 ≤ widN f from ⟨hq, o3⟩)
    clear hq o1 o2 o3 hw
    go_wp2_with (first
     | ((with_reducible refine at_alloc_ (d := 7) ?_); refine wpList_alloc_v (op := ⟨some 7, _, _, _, _, _⟩) rfl 84 rfl plc0 info_p ?_; intro g7 v7a hf hr; replace HO := Lib.hid (HO.out.new hf hr); clear hf hr)
     | ((with_reducible refine at_store_ (i := 7) ?_); refine wpList_store_v rfl 84 (.tmp 7) (.tmp 12) rfl g7 (plc0) (plcV q) rfl rfl (HO.out.row (i := 1) rfl) rfl (plcV_one _) size_p ?_; intro v7s12 hw hr; replace HO := Lib.hid (HO.out.set (i := 1) rfl hw hr); clear hw hr))
    obtain ⟨R, hR⟩ : ∃ R, S (ls.getD q.1 []) = R := ⟨_, rfl⟩
    have hRz : R.size = widN f := by rw [← hR, S_size]; exact HW.out
    have hRz2 : q.2.2 ≤ R.size := by rw [hRz]; exact HQ.out.2
    have hRz3 : R.size ≤ 44 := by rw [hRz]; unfold widN; repeat (first | omega | split)
    obtain ⟨U, hU⟩ : ∃ U, R.extract q.2.1 q.2.2 = U := ⟨_, rfl⟩
    have hUz : U.size ≤ 44 := by rw [← hU, ByteArray.size_extract]; omega
    have hTz : T.size ≤ 176 := by have := HZ.out; omega
    have HU := Lib.hid (show R.extract q.2.1 q.2.2 = U ∧ U = S (subL ls q) from ⟨hU, by rw [← hU]; exact sub_ext hR.symm⟩)
    have cl : ∀ d os, (Go.Sort.grow (redrawn v7s12 d) os).cell? ⟨ab, ao + q.1, none⟩ = some (.string R) := fun d os => by
     rw [← hR]; exact cell_regrown ((HO.out.bl.cell (p := ⟨ab, ao + q.1, none⟩) HC.out.1).trans (HC.out.2.1 q.1 (by have := HN.out; omega))) d os
    have l0 := (HO.out.row (i := 1) rfl).quiet (k := 0) rfl
    have l1 := (HO.out.row (i := 1) rfl).quiet (k := 1) rfl
    have l2 := (HO.out.row (i := 1) rfl).quiet (k := 2) rfl
    clear hR hRz hU hix
    refine wp_region_quiet_below (by kernel_rfl) (by kernel_rfl) ?_
    repeat (first | go_big_quiet_skip | (go_big_quiet_want; go_big_quiet_op; go_big_quiet_on) | quiet_step (fail))
    refine wpQuiet_nil ?_
    intro w3 hw3
    replace HO := Lib.hid (HO.out.on (below_of_regrown hw3))
    clear hw3 cl l0 l1 l2
    rw [HU.out.1]
    go_wp2
    go_roundw
    case rel => exact ⟨k + 1, _, by omega, by go_num, rfl, Lib.hid (by
     rw [HT.out, HU.out.2, S_append]
     congr 1
     rw [List.take_add_one, List.flatMap_append]
     have hlen4 : (cmps f).length = 4 := by unfold cmps; repeat (first | rfl | split)
     rw [List.getElem?_eq_getElem (by omega)]
     have : (cmps f)[k]'(by omega) = q := by rw [← HQ.out.1, List.getD_eq_getElem?_getD, List.getElem?_eq_getElem (by omega)]; rfl
     rw [this]
     simp), Lib.hid (by have := HZ.out; rw [ByteArray.size_append]; omega), Lib.hid (Own.pre (L := [(g2, layV f)]) HO.out)⟩
    case measure => simp [intOf]; omega
  · obtain rfl : k = 4 := by omega
    have hT : T = S (cmpT f ls) := by
     rw [HT.out]
     unfold cmpT
     rw [List.take_of_length_le]
     unfold cmps; repeat (first | decide | split)
    have HTT := Lib.hid (show T = S (cmpT f ls) ∧ T.size ≤ 140737488355328 ∧ Mm wr from ⟨hT, by have := HZ.out; omega, HC.out.2.2.own HO.out⟩)
    clear hT
    go_wp2_with (go_at_call 96; ((with_reducible refine (p_dig T _ HTT.out.1 _ HTT.out.2.1 HTT.out.2.2).mono ?_); rintro e c1 ⟨rfl, hb⟩); replace HO := Lib.hid (HO.out.on hb); clear hb)
    go_ret
    exact ⟨rfl, HO.out.bl⟩
end Go.Proofs.YtibahbkjjfmbgaaGreatDoor
namespace Go.Proofs.YtibahbkjjfmbgaaGreatDoor
open Go.RowKit Go.Maps
set_option linter.unusedVariables false
abbrev mT : TypeId := 91
abbrev iT : TypeId := 3
abbrev sT : TypeId := 9
theorem kInt : Keyed Tryz.prog iT := int_keyed Tryz.underlying3
theorem zStr (w : World) : (zeroValue sT).run Tryz.prog w = .ok (.string ⟨#[]⟩) w := by kernel_rfl
def kL (k : Nat) : Lit := .int .i64 (k : Int)
theorem kL_wf {k : Nat} (h : k < 15) : (kL k).wf = true := WalkArith.wf_i64 (by omega)
theorem kL_key {k : Nat} (h : k < 15) : keyOf Tryz.prog iT (.int .i64 (k : Int)) = some (kL k) := keyOf_int_mk Tryz.underlying3 (kL_wf h)
theorem kL_inj {a b : Nat} (h : kL a = kL b) : a = b := by
 unfold kL at h
 injection h with _ h
 exact Int.ofNat_inj.1 h
def tL (x : List UInt8) : DataW Unit := .lit (.string x)
def MapIs (w : World) (b n : Nat) (T : Nat → List UInt8) : Prop :=
 ∃ D : DataW Unit, w.ownsMap Tryz.prog iT (plainElem Tryz.prog sT) b n D ∧ (∀ k : Nat, k < 15 → D.atKey (kL k) (tL []) = tL (T k)) ∧ ∀ kl, has D kl = true → ∃ k : Nat, k < 15 ∧ kl = kL k
def updT (T : Nat → List UInt8) (k : Nat) (x : List UInt8) : Nat → List UInt8 := fun j => if j = k then x else T j
section
variable {w w' : World} {b n : Nat} {T : Nat → List UInt8}
theorem MapIs.lt (h : MapIs w b n T) : b < w.heap.size := by obtain ⟨D, h, _⟩ := h; exact h.lt
theorem MapIs.kept {row : Option Nat} (h : MapIs w b n T) (hg : w.grownBy w' row) (hne : some b ≠ row) : MapIs w' b n T := by
 obtain ⟨D, h, r⟩ := h; exact ⟨D, h.kept hg hne, r⟩
theorem MapIs.on (h : MapIs w b n T) (hb : Below w.heap.size w w') : MapIs w' b n T := h.kept (row := none) (grown_below hb) (by simp)
theorem MapIs.made (w : World) : MapIs (w.alloc (.map #[] 0)) w.heap.size 0 (fun _ => []) :=
 ⟨.map [], World.ownsMap_made _ _ _ _, fun k hk => rfl, fun kl h => by cases h⟩
theorem MapIs.look (h : MapIs w b n T) {k : Nat} (hk : k < 15) : (Instr.lookup mT (.map (some b)) (.int .i64 (k : Int)) false).run Tryz.prog w = .ok (.string (S (T k))) w := by
 obtain ⟨D, h, hat, _⟩ := h
 obtain ⟨v, ps, hr, hv⟩ := h.lookup kInt (t := mT) Tryz.underlying91 (zStr w) (zd := tL []) (zp := []) (plainElem_string Tryz.underlying9 (by decide)) (kL_key hk)
 rw [hat k hk] at hv
 obtain ⟨s, rfl, hz, _⟩ := plainElem_string_inv Tryz.underlying9 hv
 rw [hr]
 have e : T k = s.data.toList := Lit.string.inj (DataW.lit.inj (congrArg Prod.fst hz))
 rw [e]
 have e2 : S s.data.toList = s := by simp [S]
 rw [e2]
theorem MapIs.put (h : MapIs w b n T) (hn : n < 1000) {k : Nat} (hk : k < 15) {s : ByteArray} {x : List UInt8} (hx : s = S x) (hs : s.size ≤ maxLen) :
 ∃ w', (Instr.mapUpdate mT (.map (some b)) (.int .i64 (k : Int)) (.string s)).run Tryz.prog w = .ok () w' ∧ MapIs w' b (n + 1) (updT T k x) ∧ w.grownBy w' (some b) := by
 obtain ⟨D, h, hat, hh⟩ := h
 have hd : s.data.toList = x := by rw [hx, S_data]
 obtain ⟨w', hr, h', hg⟩ := h.update kInt (t := mT) Tryz.underlying91 (by unfold maxLen; omega) (kL_key hk) (plainElem_string Tryz.underlying9 hs)
 obtain ⟨es, hes, _⟩ := h.entries kInt
 have hI : IsMap D := ⟨es, hes⟩
 refine ⟨w', hr, ⟨_, h', fun j hj => ?_, fun kl hkl => ?_⟩, hg⟩
 · unfold updT
   by_cases e : j = k
   · rw [e, if_pos rfl, atKey_put_same hI (kInt.key (kL_key hk)), hd]; rfl
   · rw [if_neg e, atKey_put_other (fun e2 => e (kL_inj e2)), hat j hj]
 · by_cases e : kl = kL k
   · exact ⟨k, hk, e⟩
   · rw [has_put_other e] at hkl
     exact hh kl hkl
def RangeIs (w : World) (b r n : Nat) (T : Nat → List UInt8) (lf : Nat → Bool) (cnt : Nat) : Prop :=
 ∃ (D : DataW Unit) (left : Lit → Bool), w.ranges Tryz.prog iT (plainElem Tryz.prog sT) b r n D left cnt ∧ (∀ k : Nat, k < 15 → D.atKey (kL k) (tL []) = tL (T k)) ∧ (∀ kl, left kl = true → ∃ k : Nat, k < 15 ∧ kl = kL k) ∧ ∀ k : Nat, k < 15 → lf k = left (kL k)
theorem RangeIs.map {r cnt : Nat} {lf : Nat → Bool} (h : RangeIs w b r n T lf cnt) (hD : True) : b < w.heap.size ∧ r < w.heap.size ∧ r ≠ b := by
 obtain ⟨D, left, h, _⟩ := h; exact ⟨h.owns.lt, h.lt, h.ne⟩
theorem RangeIs.kept {r cnt : Nat} {lf : Nat → Bool} {row : Option Nat} (h : RangeIs w b r n T lf cnt) (hg : w.grownBy w' row) (hb : some b ≠ row) (hr : some r ≠ row) : RangeIs w' b r n T lf cnt := by
 obtain ⟨D, left, h, x⟩ := h; exact ⟨D, left, h.kept hg hb hr, x⟩
theorem RangeIs.on {r cnt : Nat} {lf : Nat → Bool} (h : RangeIs w b r n T lf cnt) (hb : Below w.heap.size w w') : RangeIs w' b r n T lf cnt := h.kept (row := none) (grown_below hb) (by simp) (by simp)
end
section
variable {w : World} {ops : Array Oper} {rest : List Oper} {o : Oper} {a : Act} {Q : Exit → Act → World → Prop}
theorem wpList_put_m (hg : o.guard = none) (m x v : Operand) (hop : o.op = Op.mapUpdate mT m x v) (b n : Nat) (T : Nat → List UInt8) (hm : a.eval m = .map (some b)) (h : MapIs w b n T) (hn : n < 1000) (k : Nat) (hk : k < 15) (hx : a.eval x = .int .i64 (k : Int))
 (s : ByteArray) (y : List UInt8) (hv : a.eval v = .string s) (hy : s = S y) (hs : s.size ≤ maxLen)
 (hK : ∀ w', MapIs w' b (n + 1) (updT T k y) → w.grownBy w' (some b) → wpList Tryz.prog ops Q rest (a.put o.dst undef) w') : wpList Tryz.prog ops Q (o :: rest) a w := by
 refine wpList_plain hg fun K' hK' => ?_
 obtain ⟨w', hrun, r1, r2⟩ := h.put hn hk hy hs
 unfold Oper.wp
 simp [execOp, hop, hm, hx, hv, hrun, Result.andThen]
 exact hK' _ _ (hK w' r1 r2)
theorem wpList_look_m (hg : o.guard = none) (m x : Operand) (hop : o.op = Op.lookup mT m x false) (b n : Nat) (T : Nat → List UInt8) (hm : a.eval m = .map (some b)) (h : MapIs w b n T) (k : Nat) (hk : k < 15) (hx : a.eval x = .int .i64 (k : Int))
 (hK : wpList Tryz.prog ops Q rest (a.put o.dst (.string (S (T k)))) w) : wpList Tryz.prog ops Q (o :: rest) a w := by
 refine wpList_plain hg fun K' hK' => ?_
 have hr := h.look hk
 unfold Oper.wp
 simp [execOp, hop, hm, hx, hr, Result.andThen]
 exact hK' _ _ hK
end
theorem wr_grown {w w' : World} {g : Nat} (h : Wr w w' g) : w.grownBy w' (some g) := ⟨h.1, h.2.1, h.2.2.1, by rw [h.2.2.2.1]; exact Nat.le_refl _, fun k _ hk => h.2.2.2.2 k (fun e => hk (by rw [e]))⟩
def OwnM (w cur : World) (L : List (Nat × List Value)) (b n : Nat) (T : Nat → List UInt8) : Prop := Own w cur L ∧ MapIs cur b n T ∧ w.heap.size ≤ b ∧ ∀ (i g : Nat) (vs : List Value), L[i]? = some (g, vs) → g ≠ b
section
variable {w cur cur' : World} {L : List (Nat × List Value)} {b n g i : Nat} {T : Nat → List UInt8} {vs us : List Value}
theorem OwnM.bl (h : OwnM w cur L b n T) : Below w.heap.size w cur := h.1.1
theorem OwnM.start (h : Own w cur L) (hf : Fresh cur cur' b) (hm : MapIs cur' b n T) : OwnM w cur' L b n T :=
 ⟨h.on hf.bw, hm, hf.ge h.1, fun i g vs e => (h.row e).ne hf⟩
theorem OwnM.on (h : OwnM w cur L b n T) (hb : Below cur.heap.size cur cur') : OwnM w cur' L b n T := ⟨h.1.on hb, h.2.1.on hb, h.2.2.1, h.2.2.2⟩
theorem OwnM.new (h : OwnM w cur L b n T) (hf : Fresh cur cur' g) (hr : RowV cur' g vs) : OwnM w cur' (L ++ [(g, vs)]) b n T := by
 refine ⟨h.1.new hf hr, h.2.1.on hf.bw, h.2.2.1, fun i g' vs' e => ?_⟩
 rw [List.getElem?_append] at e
 split at e
 · exact h.2.2.2 i g' vs' e
 · have e' : g' = g := by
    rcases hk : i - L.length with _ | k
    · rw [hk] at e; simp at e; exact e.1.symm
    · rw [hk] at e; simp at e
   have := h.2.1.lt
   rw [e', hf.1]; omega
theorem OwnM.set (h : OwnM w cur L b n T) (e : L[i]? = some (g, vs)) (hw : Wr cur cur' g) (hr : RowV cur' g us) : OwnM w cur' (L.set i (g, us)) b n T := by
 have hne := h.2.2.2 i g vs e
 refine ⟨h.1.set e hw hr, h.2.1.kept (wr_grown hw) (by simpa using Ne.symm hne), h.2.2.1, fun j g' vs' hj => ?_⟩
 by_cases hji : j = i
 · subst hji
   rw [List.getElem?_set_self (List.getElem?_eq_some_iff.1 e).1] at hj
   injection hj with hj
   injection hj with h1 _
   rw [← h1]; exact hne
 · rw [List.getElem?_set_ne (Ne.symm hji)] at hj
   exact h.2.2.2 j g' vs' hj
theorem OwnM.upd {n' : Nat} {T' : Nat → List UInt8} (h : OwnM w cur L b n T) (hm : MapIs cur' b n' T') (hg : cur.grownBy cur' (some b)) : OwnM w cur' L b n' T' :=
 ⟨h.1.far hg (fun r hr => by injection hr with hr; rw [← hr]; exact h.2.2.1) (fun i g vs e he => h.2.2.2 i g vs e (by injection he with he; exact he.symm)), hm, h.2.2.1, h.2.2.2⟩
theorem OwnM.pre {M : List (Nat × List Value)} (h : OwnM w cur (L ++ M) b n T) : OwnM w cur L b n T :=
 ⟨h.1.pre, h.2.1, h.2.2.1, fun i g vs e => h.2.2.2 i g vs (by rw [List.getElem?_append_left (List.getElem?_eq_some_iff.1 e).1]; exact e)⟩
theorem OwnM.ext {T' : Nat → List UInt8} (h : OwnM w cur L b n T) (he : ∀ k, k < 15 → T k = T' k) : OwnM w cur L b n T' := by
 obtain ⟨h1, ⟨D, h2, h3, h4⟩, h5⟩ := h
 exact ⟨h1, ⟨D, h2, fun k hk => by rw [← he k hk]; exact h3 k hk, h4⟩, h5⟩
end
theorem at_makeMap_ {P : Program} {ops : Array Oper} {rest : List Oper} {a : Act} {w : World} {Q : Exit → Act → World → Prop} {d : Nat} {x : Option Operand} {ty t : TypeId} {ps : String} {af : Array Edge} {gd : Option (Nat × Bool)} (h : wpList P ops Q (⟨some d, .makeMap ty x, t, ps, af, gd⟩ :: rest) a w) : wpList P ops Q (⟨some d, .makeMap ty x, t, ps, af, gd⟩ :: rest) a w := h
theorem at_put_ {P : Program} {ops : Array Oper} {rest : List Oper} {a : Act} {w : World} {Q : Exit → Act → World → Prop} {x y z : Operand} {ty t : TypeId} {ps : String} {af : Array Edge} {gd : Option (Nat × Bool)} (h : wpList P ops Q (⟨none, .mapUpdate ty x y z, t, ps, af, gd⟩ :: rest) a w) : wpList P ops Q (⟨none, .mapUpdate ty x y z, t, ps, af, gd⟩ :: rest) a w := h
theorem at_look_ {P : Program} {ops : Array Oper} {rest : List Oper} {a : Act} {w : World} {Q : Exit → Act → World → Prop} {d : Nat} {x y : Operand} {ty t : TypeId} {ps : String} {af : Array Edge} {gd : Option (Nat × Bool)} (h : wpList P ops Q (⟨some d, .lookup ty x y false, t, ps, af, gd⟩ :: rest) a w) : wpList P ops Q (⟨some d, .lookup ty x y false, t, ps, af, gd⟩ :: rest) a w := h
theorem wpList_makeMap_m {P : Program} {ops : Array Oper} {rest : List Oper} {op : Oper} {a : Act} {w : World} {Q : Exit → Act → World → Prop} (hg : op.guard = none) (c : Option Operand) (ho : op.op = .makeMap mT c)
 (hr : ∀ w, (Instr.makeMap mT (c.map a.eval)).run P w = .ok (.map (some w.heap.size)) (w.alloc (.map #[] 0)))
 (hK : ∀ g w', Fresh w w' g → MapIs w' g 0 (fun _ => []) → wpList P ops Q rest (a.put op.dst (.map (some g))) w') : wpList P ops Q (op :: rest) a w := by
 refine wpList_plain hg fun K hK2 => ?_
 unfold Oper.wp execOp
 simp only [ho, Sem.run_bind, hr, Result.andThen_ok]
 exact hK2 _ _ (hK _ _ ⟨rfl, _, rfl⟩ (MapIs.made w))
theorem wp_region_quiet_tailN {P : Program} {id : Nat} {Q : Exit → Act → World → Prop} {a : Act} {w : World} {l : List Oper} (n : Nat) (t : Oper) (hl : l.drop n = [t]) (hm : P.follows .mixedOrders = true) (hX : Region.lexB .any (l.take n).toArray = true) (hB : tailB (l.take n).toArray t = true) (hlow : t.after.all (fun e => decide (e.on < (l.take n).length)) = true)
 (h : wpQuiet P (l.take n).toArray (fun w' => ∃ p : Regrown, w' = Go.Sort.grow (redrawn w p.d) p.os) (fun a' => ∀ w', (∃ p : Regrown, w' = Go.Sort.grow (redrawn w p.d) p.os) → wpList P ((l.take n).toArray.push t) Q [t] a' w') (l.take n) a) :
 (Code.region id l.toArray true).wp P Q a w := by
 have e : l = l.take n ++ [t] := by rw [← hl, List.take_append_drop]
 rw [e]
 exact wp_region_quiet_tail hm hX hB hlow h
set_option maxHeartbeats 1600000 in
set_option maxRecDepth 20000 in
theorem p_read (f : Int) (h : 1 ≤ f ∧ f ≤ 3) (A : Option Addr) (c : Nat) (ls : List (List UInt8)) (w : World) (hs : Strs w A ls) (hl : LinesOf f ls) :
 Calls Tryz.prog 59 #[.agg (layV f).toArray, .slice A ls.length c] w fun e w' => ∃ b, e = .returned (.map (some b)) ∧ Below w.heap.size w w' ∧ w.heap.size ≤ b ∧ MapIs w' b 15 (fd f ls) := by
 have hcn : 0 < ls.length := by rw [hl.1]; unfold cntN; repeat (first | omega | split)
 obtain ⟨ab, ao, rfl, hab, hcell⟩ := hs.cell hcn
 have HK := Lib.hid (show 4 + 45 ≤ (layV f).length ∧ ((layV f).drop 4).take 45 = plV f ∧ (Tryz.prog.info? 85).map (·.size) = some (plV f).length from ⟨by rw [layV_len h]; decide, (lay_plV h).1, by rw [(lay_plV h).2]; exact size_p15⟩)
 have HI := Lib.hid (fun (k : Nat) (hk : k < 15) (w : World) => idx_plc h hk w)
 have HC := Lib.hid (show _ ∧ _ from ⟨hab, hcell⟩)
 have HL := Lib.hid (show _ ∧ _ from ⟨h, hl⟩)
 have hlen : ls.length = cntN f := hl.1
 have hc3 : cntN f ≤ 3 := by unfold cntN; repeat (first | omega | split)
 obtain ⟨n, hn⟩ : ∃ n, ls.length = n := ⟨_, rfl⟩
 rw [hn] at hlen hcn ⊢
 have HN := Lib.hid hn
 clear hab hcell hs hl h hn
 have HO := Lib.hid (Own.start w)
 go_enter Tryz.func59, Tryz.ntmps59
 go_wp2_with (first
  | ((with_reducible refine at_box_ (d := 2) ?_); refine wpList_box_v (op := ⟨some 2, _, _, _, _, _⟩) rfl 88 _ rfl (layV f) rfl ?_; intro g2 v2b hf hr; replace HO := Lib.hid (HO.out.new hf hr); clear hf hr)
  | ((with_reducible refine at_makeMap_ (d := 8) ?_); refine wpList_makeMap_m (op := ⟨some 8, _, _, _, _, _⟩) rfl _ rfl (fun w => rfl) ?_; intro gm vm hf hmp; have HM := Lib.hid (OwnM.start HO.out hf hmp); clear hf hmp)
  | ((with_reducible refine at_load_ (d := 10) ?_); refine wpList_load_part (op := ⟨some 10, _, _, _, _, _⟩) rfl 85 _ rfl g2 4 rfl (layV f) 45 (plV f) _ (HM.out.1.row (i := 0) rfl) HK.out.1 HK.out.2.1 Tryz.underlying85 rfl HK.out.2.2 ?_))
 go_loopw [11] (fun i wr => ∃ (k : Nat), k ≤ 15 ∧ i = .int .i64 (k : Int) ∧ Hid (OwnM w wr [(g2, layV f)] gm k (fun j => if j < k then fd f ls j else []))) (fun i _ => 15 - (intOf i).toNat)
 case atStart => exact ⟨0, by omega, rfl, Lib.hid (HM.out.ext fun k _ => by simp)⟩
 case round =>
  obtain ⟨k, hk, rfl, HM⟩ := hrel
  by_cases hlt : k < 15
  · obtain ⟨q, hq⟩ : ∃ q, plc f k = q := ⟨_, rfl⟩
    obtain ⟨o1, o2, o3⟩ := plc_ok HL.out.1 hlt
    have hix := fun w => HI.out k hlt w
    rw [hq] at o1 o2 o3 hix
    have hw : widN f ≤ 44 := by unfold widN; repeat (first | omega | split)
    have HW := Lib.hid (HL.out.2.2 q.1 o1)
    have q1 : q.1 < n := by omega
    have q2 : q.2.2 ≤ 44 := by omega
    have q3 : q.2.1 ≤ q.2.2 := o2
    have HQ := Lib.hid (show plc f k = q ∧ q.2.2 ≤ widN f from ⟨hq, o3⟩)
    clear hq o1 o2 o3 hw
    go_wp2_with (first
     | ((with_reducible refine at_alloc_ (d := 7) ?_); refine wpList_alloc_v (op := ⟨some 7, _, _, _, _, _⟩) rfl 84 rfl plc0 info_p ?_; intro g7 v7a hf hr; replace HM := Lib.hid (HM.out.new hf hr); clear hf hr)
     | ((with_reducible refine at_store_ (i := 7) ?_); refine wpList_store_v rfl 84 (.tmp 7) (.tmp 14) rfl g7 (plc0) (plcV q) rfl rfl (HM.out.1.row (i := 1) rfl) rfl (plcV_one _) size_p ?_; intro v7s14 hw hr; replace HM := Lib.hid (HM.out.set (i := 1) rfl hw hr); clear hw hr))
    obtain ⟨R, hR⟩ : ∃ R, S (ls.getD q.1 []) = R := ⟨_, rfl⟩
    have hRz : R.size = widN f := by rw [← hR, S_size]; exact HW.out
    have hRz2 : q.2.2 ≤ R.size := by rw [hRz]; exact HQ.out.2
    have hRz3 : R.size ≤ 44 := by rw [hRz]; unfold widN; repeat (first | omega | split)
    obtain ⟨U, hU⟩ : ∃ U, R.extract q.2.1 q.2.2 = U := ⟨_, rfl⟩
    have hUz : U.size ≤ 44 := by rw [← hU, ByteArray.size_extract]; omega
    have HU := Lib.hid (show R.extract q.2.1 q.2.2 = U ∧ U = S (subL ls q) ∧ U.size ≤ maxLen from ⟨hU, by rw [← hU]; exact sub_ext hR.symm, by unfold maxLen; omega⟩)
    have cl : ∀ d os, (Go.Sort.grow (redrawn v7s14 d) os).cell? ⟨ab, ao + q.1, none⟩ = some (.string R) := fun d os => by
     rw [← hR]; exact cell_regrown ((HM.out.bl.cell (p := ⟨ab, ao + q.1, none⟩) HC.out.1).trans (HC.out.2 q.1 (by have := HN.out; omega))) d os
    have l0 := (HM.out.1.row (i := 1) rfl).quiet (k := 0) rfl
    have l1 := (HM.out.1.row (i := 1) rfl).quiet (k := 1) rfl
    have l2 := (HM.out.1.row (i := 1) rfl).quiet (k := 2) rfl
    have qc := quiet_up (w := v7s14) fun w' hb => p_clone (R.extract q.2.1 q.2.2) (by rw [hU]; omega) w'
    clear hR hRz hU hix
    refine wp_region_quiet_tailN 13 _ rfl (by kernel_rfl) (by kernel_rfl) (by kernel_rfl) (by kernel_rfl) ?_
    simp only [List.take_succ_cons, List.take_zero]
    repeat (first | go_big_quiet_skip | (go_big_quiet_want; go_big_quiet_op; go_big_quiet_on) | quiet_step (first | with_reducible exact qc _ _))
    refine wpQuiet_nil ?_
    intro w3 hw3
    replace HM := Lib.hid (HM.out.on (below_of_regrown hw3))
    clear hw3 cl l0 l1 l2 qc
    rw [HU.out.1]
    go_wp2_with ((with_reducible refine at_put_ ?_); refine wpList_put_m rfl _ _ _ rfl gm k _ rfl HM.out.2.1 (by omega) k hlt rfl U (subL ls q) rfl HU.out.2.1 HU.out.2.2 ?_; intro w4 hm4 hg4; replace HM := Lib.hid (HM.out.upd hm4 hg4); clear hm4 hg4)
    go_roundw
    case rel => exact ⟨k + 1, by omega, by go_num, Lib.hid (OwnM.pre (L := [(g2, layV f)]) (HM.out.ext fun j hj => by
     unfold updT
     by_cases e : j = k
     · subst e
       rw [if_pos rfl, if_pos (by omega)]
       unfold fd
       rw [HQ.out.1]
     · rw [if_neg e]
       show (if j < k then fd f ls j else []) = _
       by_cases e2 : j < k
       · rw [if_pos e2, if_pos (by omega)]
       · rw [if_neg e2, if_neg (by omega)]))⟩
    case measure => simp [intOf]; omega
  · obtain rfl : k = 15 := by omega
    go_wp2
    go_ret
    exact ⟨gm, rfl, HM.out.bl, HM.out.2.2.1, (HM.out.ext (T' := fd f ls) fun j hj => by rw [if_pos hj]).2.1⟩
end Go.Proofs.YtibahbkjjfmbgaaGreatDoor
