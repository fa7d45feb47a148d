/-
  What is proved here: the law on the number of choices: what it answers, for each of its four readings.
-/
import Derived.Test.YtibahbkjjfmbgaaGreatDoorX6
import Derived.Test.YtibahbkjjfmbgaaGreatDoorY18
namespace Go.Proofs.YtibahbkjjfmbgaaGreatDoor
open Go.RowKit
set_option linter.unusedVariables false

theorem own_row {w : World} {base n c : Nat} {e : TypeId} {A : Option Addr} {vs : List Value} (h : w.ownsRow base e 1 (.slice A n c) n vs) (hn : 0 < n) : ∃ g us, A = some ⟨g, 0, none⟩ ∧ base ≤ g ∧ RowV w g (vs ++ us) := by
  rcases h.2 with ⟨h1, h2⟩ | ⟨g, cap, cur, hv, hb, hh, _, _, _, ht⟩
  · omega
  · injection hv with h1 _ _
    refine ⟨g, cur.toList.drop n, h1, hb, e, ?_⟩
    rw [hh]
    have : vs ++ cur.toList.drop n = cur.toList := by
      rw [← ht, Nat.mul_one, List.take_append_drop]
    rw [this]
theorem two_open {w : World} {base c n0 n1 : Nat} {A : Option Addr} {vs : List Value} {r0 r1 : List (List UInt8)} (h : w.ownsRow base 25 1 (.slice A 2 c) 2 vs) (hi : InnR w base vs [r0, r1]) (h0 : r0.length = n0) (h1 : r1.length = n1) (p0 : 0 < n0) (p1 : 0 < n1) :
    ∃ g0 ga gb c0 c1 cs ca cb, A = some ⟨g0, 0, none⟩ ∧ (base ≤ ga ∧ g0 ≠ ga ∧ gb ≠ ga) ∧ RowV w g0 ([Value.slice (some ⟨ga, 0, none⟩) n0 c0, Value.slice (some ⟨gb, 0, none⟩) n1 c1] ++ cs) ∧ RowV w ga (strV r0 ++ ca) ∧ RowV w gb (strV r1 ++ cb) := by
  subst h0 h1
  obtain ⟨g0, cs, rfl, hb0, hr0⟩ := own_row h (by decide)
  obtain ⟨A0, c0, e0, o0⟩ := hi.2.1 0 r0 rfl
  obtain ⟨A1, c1, e1, o1⟩ := hi.2.1 1 r1 rfl
  obtain ⟨ga, ca, rfl, hba, hra⟩ := own_row o0 p0
  obtain ⟨gb, cb, rfl, hbb, hrb⟩ := own_row o1 p1
  have hvs : vs = [Value.slice (some ⟨ga, 0, none⟩) r0.length c0, Value.slice (some ⟨gb, 0, none⟩) r1.length c1] := by
    have hl := hi.1
    rcases vs with _ | ⟨a, _ | ⟨b, _ | ⟨x, t⟩⟩⟩ <;> simp at hl e0 e1
    rw [e0, e1]
  subst hvs
  refine ⟨g0, ga, gb, c0, c1, cs, ca, cb, rfl, ⟨hba, ?_, ?_⟩, hr0, hra, hrb⟩
  · rcases ownR_apart h o0 (by decide) with e | e
    · cases e
    · exact fun x => e (by simp [Value.ownBlock, x])
  · rcases hi.2.2 1 0 _ _ rfl rfl (by decide) with e | e
    · cases e
    · exact fun x => e (by simp [Value.ownBlock, x])
theorem two_rdg {w : World} {g0 ga gb c0 c1 n0 n1 : Nat} {cs ca cb : List Value} {r0 r1 : List (List UInt8)} (h0 : r0.length = n0) (h1 : r1.length = n1) (h : RowV w g0 ([Value.slice (some ⟨ga, 0, none⟩) n0 c0, Value.slice (some ⟨gb, 0, none⟩) n1 c1] ++ cs)) (ha : RowV w ga (strV r0 ++ ca)) (hb : RowV w gb (strV r1 ++ cb)) : Rdg w (some ⟨g0, 0, none⟩) [r0, r1] := by
  subst h0 h1
  refine ⟨_, h.sees, rfl, fun i r hr => ?_⟩
  rcases i with _ | _ | i
  · simp at hr; subst hr; exact ⟨_, _, rfl, ha.sees⟩
  · simp at hr; subst hr; exact ⟨_, _, rfl, hb.sees⟩
  · simp at hr
def smR0 : List (List UInt8) := (smpL.getD 0 []).map fun b => [b]
def smR1 : List (List UInt8) := (smpL.getD 1 []).map fun b => [b]
theorem sm_two : shL smpL = [smR0, smR1] := rfl
theorem p_sharp2 (A : Option Addr) (w : World) (hs : Strs w A smpL) : Calls Tryz.prog 29 #[.slice A 2 2] w fun e w' => ∃ g0 ga gb c0 c1 cs ca cb c5, e = .returned (.slice (some ⟨g0, 0, none⟩) 2 c5) ∧ (w.heap.size ≤ ga ∧ g0 ≠ ga ∧ gb ≠ ga) ∧ RowV w' g0 ([Value.slice (some ⟨ga, 0, none⟩) 44 c0, Value.slice (some ⟨gb, 0, none⟩) 44 c1] ++ cs) ∧ RowV w' ga (strV smR0 ++ ca) ∧ RowV w' gb (strV smR1 ++ cb) ∧ Below w.heap.size w w' := by
  refine (r_sharp smpL A 2 2 rfl (by decide) smp_len w hs).mono ?_
  rintro e w2 ⟨A5, c5, vs, rfl, ho, hin, hb2⟩
  rw [sm_two] at hin
  obtain ⟨g0, ga, gb, c0, c1, cs, ca, cb, rfl, q1, q2, q3, q4⟩ := two_open (n0 := 44) (n1 := 44) ho hin rfl rfl (by decide) (by decide)
  exact ⟨g0, ga, gb, c0, c1, cs, ca, cb, c5, rfl, q1, q2, q3, q4, hb2⟩
def spR : Nat → List (List UInt8)
  | 0 => smR0
  | j + 1 => (spR j).set (5 + j) [65, 66]
theorem spR_len : ∀ j, (spR j).length = 44
  | 0 => rfl
  | j + 1 => by unfold spR; rw [List.length_set]; exact spR_len j
theorem spR_set (j m : Nat) (hm : 5 + j = m) (h : m < 44) (ca : List Value) : (strV (spR j) ++ ca).set m (.string ⟨#[65, 66]⟩) = strV (spR (j + 1)) ++ ca := by
  subst hm
  have hl : (strV (spR j)).length = 44 := by unfold strV; rw [List.length_map]; exact spR_len j
  rw [List.set_append_left _ _ (by omega)]
  congr 1
  show _ = strV ((spR j).set (5 + j) [65, 66])
  unfold strV
  rw [List.map_set]
  rfl
def fitL12 (L : List (List (List UInt8))) : Bool := decide (L.length ≤ 3) && L.all fun r => decide (r.length ≤ 44) && r.all fun s => decide (s.length ≤ 44)
theorem fits_of {L : List (List (List UInt8))} (h : fitL12 L = true) : Fits3 L := by
  unfold fitL12 at h
  rw [Bool.and_eq_true, List.all_eq_true] at h
  have h1 := of_decide_eq_true h.1
  refine ⟨by omega, fun r hr => ?_, fun r hr s hs => ?_⟩
  · have := h.2 r hr
    rw [Bool.and_eq_true] at this
    have := of_decide_eq_true this.1
    omega
  · have := h.2 r hr
    rw [Bool.and_eq_true, List.all_eq_true] at this
    have := of_decide_eq_true (this.2 s hs)
    omega
theorem size_s12 : (Tryz.prog.info? 9).map (·.size) = some 1 := by kernel_rfl
theorem add_c12 (c k m : Nat) (h : c + k = m) (h2 : m ≤ 1000000) (x y : Operand) (w : World) : (do eqGuard .add 3 x y (.int .i64 (c : Int)) (.int .i64 (k : Int)); binOp .add 3 (.int .i64 (c : Int)) (.int .i64 (k : Int))).run Tryz.prog w = .ok (.int .i64 (m : Int)) w := by
  have h3 : IntKind.i64.wrap ((c : Int) + (k : Int)) = (m : Int) := by rw [show ((c : Int) + (k : Int)) = (m : Int) by omega]; exact wrap_small _ (by omega) (by omega)
  simp [eqGuard, binOp, go_sem, h3]
theorem wpList_addc {ops : Array Oper} {rest : List Oper} {o : Oper} {a : Act} {w : World} {Q : Exit → Act → World → Prop} (hgd : o.guard = none) (T2 : TypeId) (x y : Operand) (ho : o.op = .binOp .add 3 x y T2) (c k m : Nat) (h : c + k = m) (hx : a.eval x = .int .i64 (c : Int)) (hy : a.eval y = .int .i64 (k : Int)) (hk : m ≤ 1000000)
    (hK : wpList Tryz.prog ops Q rest (a.put o.dst (.int .i64 (m : Int))) w) : wpList Tryz.prog ops Q (o :: rest) a w := wpList_plain hgd fun K hK2 => o_add _ _ x y ho hx hy (add_c12 c k m h hk x y w) (hK2 _ _ hK)
theorem lim_val0 : cntE [spR 10, smR1] = 0 ∧ cntV [spR 10, smR1] = 1024 := by constructor <;> kernel_rfl
theorem lim_fit0 : fitL12 [spR 10, smR1] = true := by kernel_rfl
set_option maxHeartbeats 1000000 in
set_option maxRecDepth 20000 in
theorem p_llim0 (n : Int) (lo : -9223372036854775808 ≤ n) (hi : n ≤ 9223372036854775807) (hd : n % 4 = 0) (w : World) (hM : Mm w) (hG : TabG 0 w) : Calls Tryz.prog 9 #[.int .i64 n] w fun e w' => e = .returned (.bool true) ∧ Below w.heap.size w w' := by
  have HM := Lib.hid (show _ ∧ _ from ⟨hM, hG⟩)
  have HN := Lib.hid (fun w => made_mod n 4 lo hi (by decide) (by decide) w)
  have HD := Lib.hid hd
  clear hM hG lo hi hd
  go_enter Tryz.func9, Tryz.ntmps9
  go_wp2_with (first
    | (go_at_call 30; ((with_reducible refine (p_sample _).mono ?_); rintro e w1 ⟨A4, rfl, hs1, hb1⟩); have HS1 := Lib.hid hs1; have HB := Lib.hid hb1; clear hs1 hb1)
    | (go_at_call 29; ((with_reducible refine (p_sharp2 A4 _ HS1.out).mono ?_); rintro e w2 ⟨g0, ga, gb, c0, c1, cs, ca, cb, c5, rfl, q1, q2, q3, q4, hb2⟩); have H0 := Lib.hid (show (_ ∧ _) ∧ _ ∧ _ ∧ _ from ⟨⟨Nat.le_trans HB.out.size q1.1, q1.2⟩, q2, q3, q4⟩); replace HB := Lib.hid (HB.out.trans (hb2.mono HB.out.size)); clear HS1 hb2 q1 q2 q3 q4)
    | (go_at_call 27; ((with_reducible refine (HN.out _).mono ?_); rintro e w' ⟨rfl, rfl⟩); rw [HD.out]))
  have HA := Lib.hid H0.out.1
  go_loopw [5] (fun i wr => ∃ j : Nat, j ≤ 10 ∧ i = .int .i64 (j : Int) ∧ Hid (RowV wr g0 ([Value.slice (some ⟨ga, 0, none⟩) 44 c0, Value.slice (some ⟨gb, 0, none⟩) 44 c1] ++ cs) ∧ RowV wr ga (strV (spR j) ++ ca) ∧ RowV wr gb (strV smR1 ++ cb) ∧ Below w.heap.size w wr)) (fun i _ => 10 - (intOf i).toNat)
  case atStart => exact ⟨0, by omega, rfl, Lib.hid ⟨H0.out.2.1, H0.out.2.2.1, H0.out.2.2.2, HB.out⟩⟩
  case round =>
    clear H0 HB
    obtain ⟨j, hj, rfl, HR⟩ := hrel
    by_cases hlt : j < 10
    · have hj0 : (j : Int) < 10 := by omega
      obtain ⟨m, hm⟩ : ∃ m, 5 + j = m := ⟨_, rfl⟩
      have hm0 : (m : Int) < 44 := by omega
      have hm1 : m < 44 := by omega
      go_wp2_with (first
        | ((with_reducible refine at_load_ (d := 20) ?_); refine wpList_load_c rfl _ _ rfl g0 0 rfl _ (HR.out.1.cell 0) (fun w => by kernel_rfl) ?_)
        | ((with_reducible refine at_any_ (d := 22) ?_); refine wpList_addc rfl _ _ _ rfl 5 j m hm rfl rfl (by omega) ?_)
        | ((with_reducible refine at_any_ (d := 17) ?_); refine wpList_add1 rfl _ _ _ rfl j rfl rfl (by omega) ?_)
        | ((with_reducible refine at_store_ (i := 23) ?_); refine wpList_store_at rfl _ (.tmp 23) _ rfl ga m _ (.string ⟨#[65, 66]⟩) rfl rfl HR.out.2.1 (by have h := spR_len j; simp [strV, h]; omega) rfl rfl size_s12 ?_; intro w5 hw hr; have HW := Lib.hid (show _ ∧ _ from ⟨hw, hr⟩); clear hw hr))
      go_roundw
      case rel => exact ⟨j + 1, by omega, by first | rfl | go_num, Lib.hid ⟨HR.out.1.wr HW.out.1 HA.out.2.1, by have h := HW.out.2; rwa [spR_set j m hm hm1] at h, HR.out.2.2.1.wr HW.out.1 HA.out.2.2, Wr.bl HR.out.2.2.2 HW.out.1 HA.out.1⟩⟩
      case measure => simp [intOf]; omega
    · obtain rfl : j = 10 := by omega
      go_wp2_with (first
        | (go_at_call 31; ((with_reducible refine (p_count [spR 10, smR1] (some ⟨g0, 0, none⟩) 2 c5 rfl (fits_of lim_fit0) _ (two_rdg (spR_len 10) rfl HR.out.1 HR.out.2.1 HR.out.2.2.1)).mono ?_); rintro e w6 ⟨rfl, hb6⟩); rw [lim_val0.1, lim_val0.2]; have HB := Lib.hid (HR.out.2.2.2.trans (hb6.mono HR.out.2.2.2.size)); clear hb6)
        | (go_at_call 11; ((with_reducible refine (p_awake _ (HM.out.1.on HB.out) (HM.out.2.on HB.out)).mono ?_); rintro e w7 ⟨rfl, hb7⟩); replace HB := Lib.hid (HB.out.trans (hb7.mono HB.out.size)); clear hb7))
      go_ret
      exact ⟨rfl, HB.out⟩
theorem lim_val1 : cntE [spR 11, smR1] = 0 ∧ cntV [spR 11, smR1] = 2048 := by constructor <;> kernel_rfl
theorem lim_fit1 : fitL12 [spR 11, smR1] = true := by kernel_rfl
set_option maxHeartbeats 1000000 in
set_option maxRecDepth 20000 in
theorem p_llim1 (n : Int) (lo : -9223372036854775808 ≤ n) (hi : n ≤ 9223372036854775807) (hd : n % 4 = 1) (w : World) (hM : Mm w) (hG : TabG 0 w) : Calls Tryz.prog 9 #[.int .i64 n] w fun e w' => e = .returned (.bool true) ∧ Below w.heap.size w w' := by
  have HM := Lib.hid (show _ ∧ _ from ⟨hM, hG⟩)
  have HN := Lib.hid (fun w => made_mod n 4 lo hi (by decide) (by decide) w)
  have HD := Lib.hid hd
  clear hM hG lo hi hd
  go_enter Tryz.func9, Tryz.ntmps9
  go_wp2_with (first
    | (go_at_call 30; ((with_reducible refine (p_sample _).mono ?_); rintro e w1 ⟨A4, rfl, hs1, hb1⟩); have HS1 := Lib.hid hs1; have HB := Lib.hid hb1; clear hs1 hb1)
    | (go_at_call 29; ((with_reducible refine (p_sharp2 A4 _ HS1.out).mono ?_); rintro e w2 ⟨g0, ga, gb, c0, c1, cs, ca, cb, c5, rfl, q1, q2, q3, q4, hb2⟩); have H0 := Lib.hid (show (_ ∧ _) ∧ _ ∧ _ ∧ _ from ⟨⟨Nat.le_trans HB.out.size q1.1, q1.2⟩, q2, q3, q4⟩); replace HB := Lib.hid (HB.out.trans (hb2.mono HB.out.size)); clear HS1 hb2 q1 q2 q3 q4)
    | (go_at_call 27; ((with_reducible refine (HN.out _).mono ?_); rintro e w' ⟨rfl, rfl⟩); rw [HD.out]))
  have HA := Lib.hid H0.out.1
  go_loopw [5] (fun i wr => ∃ j : Nat, j ≤ 11 ∧ i = .int .i64 (j : Int) ∧ Hid (RowV wr g0 ([Value.slice (some ⟨ga, 0, none⟩) 44 c0, Value.slice (some ⟨gb, 0, none⟩) 44 c1] ++ cs) ∧ RowV wr ga (strV (spR j) ++ ca) ∧ RowV wr gb (strV smR1 ++ cb) ∧ Below w.heap.size w wr)) (fun i _ => 11 - (intOf i).toNat)
  case atStart => exact ⟨0, by omega, rfl, Lib.hid ⟨H0.out.2.1, H0.out.2.2.1, H0.out.2.2.2, HB.out⟩⟩
  case round =>
    clear H0 HB
    obtain ⟨j, hj, rfl, HR⟩ := hrel
    by_cases hlt : j < 11
    · have hj0 : (j : Int) < 11 := by omega
      obtain ⟨m, hm⟩ : ∃ m, 5 + j = m := ⟨_, rfl⟩
      have hm0 : (m : Int) < 44 := by omega
      have hm1 : m < 44 := by omega
      go_wp2_with (first
        | ((with_reducible refine at_load_ (d := 20) ?_); refine wpList_load_c rfl _ _ rfl g0 0 rfl _ (HR.out.1.cell 0) (fun w => by kernel_rfl) ?_)
        | ((with_reducible refine at_any_ (d := 22) ?_); refine wpList_addc rfl _ _ _ rfl 5 j m hm rfl rfl (by omega) ?_)
        | ((with_reducible refine at_any_ (d := 17) ?_); refine wpList_add1 rfl _ _ _ rfl j rfl rfl (by omega) ?_)
        | ((with_reducible refine at_store_ (i := 23) ?_); refine wpList_store_at rfl _ (.tmp 23) _ rfl ga m _ (.string ⟨#[65, 66]⟩) rfl rfl HR.out.2.1 (by have h := spR_len j; simp [strV, h]; omega) rfl rfl size_s12 ?_; intro w5 hw hr; have HW := Lib.hid (show _ ∧ _ from ⟨hw, hr⟩); clear hw hr))
      go_roundw
      case rel => exact ⟨j + 1, by omega, by first | rfl | go_num, Lib.hid ⟨HR.out.1.wr HW.out.1 HA.out.2.1, by have h := HW.out.2; rwa [spR_set j m hm hm1] at h, HR.out.2.2.1.wr HW.out.1 HA.out.2.2, Wr.bl HR.out.2.2.2 HW.out.1 HA.out.1⟩⟩
      case measure => simp [intOf]; omega
    · obtain rfl : j = 11 := by omega
      go_wp2_with (first
        | (go_at_call 31; ((with_reducible refine (p_count [spR 11, smR1] (some ⟨g0, 0, none⟩) 2 c5 rfl (fits_of lim_fit1) _ (two_rdg (spR_len 11) rfl HR.out.1 HR.out.2.1 HR.out.2.2.1)).mono ?_); rintro e w6 ⟨rfl, hb6⟩); rw [lim_val1.1, lim_val1.2]; have HB := Lib.hid (HR.out.2.2.2.trans (hb6.mono HR.out.2.2.2.size)); clear hb6)
        | (go_at_call 11; ((with_reducible refine (p_awake _ (HM.out.1.on HB.out) (HM.out.2.on HB.out)).mono ?_); rintro e w7 ⟨rfl, hb7⟩); replace HB := Lib.hid (HB.out.trans (hb7.mono HB.out.size)); clear hb7))
      go_ret
      exact ⟨rfl, HB.out⟩
theorem lim_val2 : cntE [spR 12, smR1] = 0 ∧ cntV [spR 12, smR1] = 4096 := by constructor <;> kernel_rfl
theorem lim_fit2 : fitL12 [spR 12, smR1] = true := by kernel_rfl
set_option maxHeartbeats 1000000 in
set_option maxRecDepth 20000 in
theorem p_llim2 (n : Int) (lo : -9223372036854775808 ≤ n) (hi : n ≤ 9223372036854775807) (hd : n % 4 = 2) (w : World) (hM : Mm w) (hG : TabG 0 w) : Calls Tryz.prog 9 #[.int .i64 n] w fun e w' => e = .returned (.bool true) ∧ Below w.heap.size w w' := by
  have HM := Lib.hid (show _ ∧ _ from ⟨hM, hG⟩)
  have HN := Lib.hid (fun w => made_mod n 4 lo hi (by decide) (by decide) w)
  have HD := Lib.hid hd
  clear hM hG lo hi hd
  go_enter Tryz.func9, Tryz.ntmps9
  go_wp2_with (first
    | (go_at_call 30; ((with_reducible refine (p_sample _).mono ?_); rintro e w1 ⟨A4, rfl, hs1, hb1⟩); have HS1 := Lib.hid hs1; have HB := Lib.hid hb1; clear hs1 hb1)
    | (go_at_call 29; ((with_reducible refine (p_sharp2 A4 _ HS1.out).mono ?_); rintro e w2 ⟨g0, ga, gb, c0, c1, cs, ca, cb, c5, rfl, q1, q2, q3, q4, hb2⟩); have H0 := Lib.hid (show (_ ∧ _) ∧ _ ∧ _ ∧ _ from ⟨⟨Nat.le_trans HB.out.size q1.1, q1.2⟩, q2, q3, q4⟩); replace HB := Lib.hid (HB.out.trans (hb2.mono HB.out.size)); clear HS1 hb2 q1 q2 q3 q4)
    | (go_at_call 27; ((with_reducible refine (HN.out _).mono ?_); rintro e w' ⟨rfl, rfl⟩); rw [HD.out]))
  have HA := Lib.hid H0.out.1
  go_loopw [5] (fun i wr => ∃ j : Nat, j ≤ 12 ∧ i = .int .i64 (j : Int) ∧ Hid (RowV wr g0 ([Value.slice (some ⟨ga, 0, none⟩) 44 c0, Value.slice (some ⟨gb, 0, none⟩) 44 c1] ++ cs) ∧ RowV wr ga (strV (spR j) ++ ca) ∧ RowV wr gb (strV smR1 ++ cb) ∧ Below w.heap.size w wr)) (fun i _ => 12 - (intOf i).toNat)
  case atStart => exact ⟨0, by omega, rfl, Lib.hid ⟨H0.out.2.1, H0.out.2.2.1, H0.out.2.2.2, HB.out⟩⟩
  case round =>
    clear H0 HB
    obtain ⟨j, hj, rfl, HR⟩ := hrel
    by_cases hlt : j < 12
    · have hj0 : (j : Int) < 12 := by omega
      obtain ⟨m, hm⟩ : ∃ m, 5 + j = m := ⟨_, rfl⟩
      have hm0 : (m : Int) < 44 := by omega
      have hm1 : m < 44 := by omega
      go_wp2_with (first
        | ((with_reducible refine at_load_ (d := 20) ?_); refine wpList_load_c rfl _ _ rfl g0 0 rfl _ (HR.out.1.cell 0) (fun w => by kernel_rfl) ?_)
        | ((with_reducible refine at_any_ (d := 22) ?_); refine wpList_addc rfl _ _ _ rfl 5 j m hm rfl rfl (by omega) ?_)
        | ((with_reducible refine at_any_ (d := 17) ?_); refine wpList_add1 rfl _ _ _ rfl j rfl rfl (by omega) ?_)
        | ((with_reducible refine at_store_ (i := 23) ?_); refine wpList_store_at rfl _ (.tmp 23) _ rfl ga m _ (.string ⟨#[65, 66]⟩) rfl rfl HR.out.2.1 (by have h := spR_len j; simp [strV, h]; omega) rfl rfl size_s12 ?_; intro w5 hw hr; have HW := Lib.hid (show _ ∧ _ from ⟨hw, hr⟩); clear hw hr))
      go_roundw
      case rel => exact ⟨j + 1, by omega, by first | rfl | go_num, Lib.hid ⟨HR.out.1.wr HW.out.1 HA.out.2.1, by have h := HW.out.2; rwa [spR_set j m hm hm1] at h, HR.out.2.2.1.wr HW.out.1 HA.out.2.2, Wr.bl HR.out.2.2.2 HW.out.1 HA.out.1⟩⟩
      case measure => simp [intOf]; omega
    · obtain rfl : j = 12 := by omega
      go_wp2_with (first
        | (go_at_call 31; ((with_reducible refine (p_count [spR 12, smR1] (some ⟨g0, 0, none⟩) 2 c5 rfl (fits_of lim_fit2) _ (two_rdg (spR_len 12) rfl HR.out.1 HR.out.2.1 HR.out.2.2.1)).mono ?_); rintro e w6 ⟨rfl, hb6⟩); rw [lim_val2.1, lim_val2.2]; have HB := Lib.hid (HR.out.2.2.2.trans (hb6.mono HR.out.2.2.2.size)); clear hb6)
        | (go_at_call 11; ((with_reducible refine (p_awake _ (HM.out.1.on HB.out) (HM.out.2.on HB.out)).mono ?_); rintro e w7 ⟨rfl, hb7⟩); replace HB := Lib.hid (HB.out.trans (hb7.mono HB.out.size)); clear hb7))
      go_ret
      exact ⟨rfl, HB.out⟩
theorem lim_val3 : cntE [spR 13, smR1] = 24 := by kernel_rfl
theorem lim_fit3 : fitL12 [spR 13, smR1] = true := by kernel_rfl
set_option maxHeartbeats 1000000 in
set_option maxRecDepth 20000 in
theorem p_llim3 (n : Int) (lo : -9223372036854775808 ≤ n) (hi : n ≤ 9223372036854775807) (hd : n % 4 = 3) (w : World) (hM : Mm w) (hG : TabG 0 w) : Calls Tryz.prog 9 #[.int .i64 n] w fun e w' => e = .returned (.bool true) ∧ Below w.heap.size w w' := by
  have HM := Lib.hid (show _ ∧ _ from ⟨hM, hG⟩)
  have HN := Lib.hid (fun w => made_mod n 4 lo hi (by decide) (by decide) w)
  have HD := Lib.hid hd
  clear hM hG lo hi hd
  go_enter Tryz.func9, Tryz.ntmps9
  go_wp2_with (first
    | (go_at_call 30; ((with_reducible refine (p_sample _).mono ?_); rintro e w1 ⟨A4, rfl, hs1, hb1⟩); have HS1 := Lib.hid hs1; have HB := Lib.hid hb1; clear hs1 hb1)
    | (go_at_call 29; ((with_reducible refine (p_sharp2 A4 _ HS1.out).mono ?_); rintro e w2 ⟨g0, ga, gb, c0, c1, cs, ca, cb, c5, rfl, q1, q2, q3, q4, hb2⟩); have H0 := Lib.hid (show (_ ∧ _) ∧ _ ∧ _ ∧ _ from ⟨⟨Nat.le_trans HB.out.size q1.1, q1.2⟩, q2, q3, q4⟩); replace HB := Lib.hid (HB.out.trans (hb2.mono HB.out.size)); clear HS1 hb2 q1 q2 q3 q4)
    | (go_at_call 27; ((with_reducible refine (HN.out _).mono ?_); rintro e w' ⟨rfl, rfl⟩); rw [HD.out]))
  have HA := Lib.hid H0.out.1
  go_loopw [5] (fun i wr => ∃ j : Nat, j ≤ 13 ∧ i = .int .i64 (j : Int) ∧ Hid (RowV wr g0 ([Value.slice (some ⟨ga, 0, none⟩) 44 c0, Value.slice (some ⟨gb, 0, none⟩) 44 c1] ++ cs) ∧ RowV wr ga (strV (spR j) ++ ca) ∧ RowV wr gb (strV smR1 ++ cb) ∧ Below w.heap.size w wr)) (fun i _ => 13 - (intOf i).toNat)
  case atStart => exact ⟨0, by omega, rfl, Lib.hid ⟨H0.out.2.1, H0.out.2.2.1, H0.out.2.2.2, HB.out⟩⟩
  case round =>
    clear H0 HB
    obtain ⟨j, hj, rfl, HR⟩ := hrel
    by_cases hlt : j < 13
    · have hj0 : (j : Int) < 13 := by omega
      obtain ⟨m, hm⟩ : ∃ m, 5 + j = m := ⟨_, rfl⟩
      have hm0 : (m : Int) < 44 := by omega
      have hm1 : m < 44 := by omega
      go_wp2_with (first
        | ((with_reducible refine at_load_ (d := 20) ?_); refine wpList_load_c rfl _ _ rfl g0 0 rfl _ (HR.out.1.cell 0) (fun w => by kernel_rfl) ?_)
        | ((with_reducible refine at_any_ (d := 22) ?_); refine wpList_addc rfl _ _ _ rfl 5 j m hm rfl rfl (by omega) ?_)
        | ((with_reducible refine at_any_ (d := 17) ?_); refine wpList_add1 rfl _ _ _ rfl j rfl rfl (by omega) ?_)
        | ((with_reducible refine at_store_ (i := 23) ?_); refine wpList_store_at rfl _ (.tmp 23) _ rfl ga m _ (.string ⟨#[65, 66]⟩) rfl rfl HR.out.2.1 (by have h := spR_len j; simp [strV, h]; omega) rfl rfl size_s12 ?_; intro w5 hw hr; have HW := Lib.hid (show _ ∧ _ from ⟨hw, hr⟩); clear hw hr))
      go_roundw
      case rel => exact ⟨j + 1, by omega, by first | rfl | go_num, Lib.hid ⟨HR.out.1.wr HW.out.1 HA.out.2.1, by have h := HW.out.2; rwa [spR_set j m hm hm1] at h, HR.out.2.2.1.wr HW.out.1 HA.out.2.2, Wr.bl HR.out.2.2.2 HW.out.1 HA.out.1⟩⟩
      case measure => simp [intOf]; omega
    · obtain rfl : j = 13 := by omega
      go_wp2_with (first
        | (go_at_call 31; ((with_reducible refine (p_count [spR 13, smR1] (some ⟨g0, 0, none⟩) 2 c5 rfl (fits_of lim_fit3) _ (two_rdg (spR_len 13) rfl HR.out.1 HR.out.2.1 HR.out.2.2.1)).mono ?_); rintro e w6 ⟨rfl, hb6⟩); rw [lim_val3]; have HB := Lib.hid (HR.out.2.2.2.trans (hb6.mono HR.out.2.2.2.size)); clear hb6)
        | (go_at_call 11; ((with_reducible refine (p_awake _ (HM.out.1.on HB.out) (HM.out.2.on HB.out)).mono ?_); rintro e w7 ⟨rfl, hb7⟩); replace HB := Lib.hid (HB.out.trans (hb7.mono HB.out.size)); clear hb7))
      go_ret
      exact ⟨rfl, HB.out⟩
theorem p_llim (n : Int) (lo : -9223372036854775808 ≤ n) (hi : n ≤ 9223372036854775807) (w : World) (hM : Mm w) (hG : TabG 0 w) : Calls Tryz.prog 9 #[.int .i64 n] w fun e w' => e = .returned (.bool true) ∧ Below w.heap.size w w' := by
  have h : n % 4 = 0 ∨ n % 4 = 1 ∨ n % 4 = 2 ∨ n % 4 = 3 := by omega
  rcases h with h | h | h | h
  · exact p_llim0 n lo hi h w hM hG
  · exact p_llim1 n lo hi h w hM hG
  · exact p_llim2 n lo hi h w hM hG
  · exact p_llim3 n lo hi h w hM hG
end Go.Proofs.YtibahbkjjfmbgaaGreatDoor
