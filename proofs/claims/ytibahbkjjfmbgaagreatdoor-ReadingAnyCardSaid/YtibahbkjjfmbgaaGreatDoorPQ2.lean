/-
  What is proved here: the reference's complete and Count, for any reading.
-/
import Derived.Test.YtibahbkjjfmbgaaGreatDoorPQ1
import Derived.Test.YtibahbkjjfmbgaaGreatDoorPY15
import Derived.Test.YtibahbkjjfmbgaaGreatDoorPZym
import Derived.Test.YtibahbkjjfmbgaaGreatDoorPY17
import Derived.Test.YtibahbkjjfmbgaaGreatDoorPY12
namespace Go.Proofs.YtibahbkjjfmbgaaGreatDoor
open Go.RowKit
set_option linter.unusedVariables false
theorem cmpl_long {L : List (List (List UInt8))} {i : Nat} (hi : i < L.length) (h : 44 < (L.getD i []).length) : cmplL L = false := by
 rcases hc : cmplL L with _ | _
 · rfl
 · have := (comp_row hc hi).1; omega
theorem cmpl_gap {L : List (List (List UInt8))} {i k : Nat} (hi : i < L.length) (hk : k < (L.getD i []).length) (h : (L.getD i []).getD k [] = []) : cmplL L = false := by
 rcases hc : cmplL L with _ | _
 · rfl
 · exact absurd h (comp_ne hc hi hk)
theorem cmpl_many {L : List (List (List UInt8))} (h : 4 ≤ L.length) : cmplL L = false := by
 rcases hc : cmplL L with _ | _
 · rfl
 · have := comp_len hc; omega
theorem xL_len (L : List (List (List UInt8))) : (xL L).length = L.length := by simp [xL]
theorem xL_get (L : List (List (List UInt8))) {i : Nat} (hi : i < L.length) : (xL L).getD i [] = List.replicate (L.getD i []).length 120 := by simp [xL, List.getD, hi, List.map_const']
theorem xL_take (L : List (List (List UInt8))) {i : Nat} (hi : i < L.length) : (xL L).take (i + 1) = (xL L).take i ++ [List.replicate (L.getD i []).length 120] := by
 have h := xL_get L hi
 rw [List.getD_eq_getElem?_getD, List.getElem?_eq_getElem (by rw [xL_len]; exact hi), Option.getD_some] at h
 rw [List.take_add_one, List.getElem?_eq_getElem (by rw [xL_len]; exact hi), h]
 rfl
theorem eqs_nil (x : List UInt8) : ((S x).toList.isEmpty) = (x == []) := by rw [S_toList]; rcases x with _ | ⟨a, r⟩ <;> rfl
set_option maxHeartbeats 3200000 in
set_option maxRecDepth 20000 in
theorem r_complete (L : List (List (List UInt8))) (A : Option Addr) (n c : Nat) (hn : L.length = n) (w : World) (hs : Rdg w A L) :
 Calls Tryz.prog 56 #[.slice A n c] w fun e w' => e = .returned (.bool (cmplL L)) ∧ Below w.heap.size w w' := by
 obtain ⟨i0, hi, hz0, hz1, hz2⟩ := info_parts info_st
 obtain ⟨b1, o1, hA, hb1, hrow⟩ : ∃ b1 o1, (0 < n → A = some ⟨b1, o1, none⟩) ∧ (0 < n → b1 < w.heap.size) ∧ ∀ i, i < n → ∃ A' c, w.cell? ⟨b1, o1 + i, none⟩ = some (.slice A' (L.getD i []).length c) ∧ Strs w A' (L.getD i []) := by
  rcases Nat.eq_zero_or_pos n with h0 | h0
  · exact ⟨0, 0, fun h => by omega, fun h => by omega, fun i hi => by omega⟩
  · obtain ⟨b, o, h1, h2, h3⟩ := hs.open_ (by omega)
    exact ⟨b, o, fun _ => h1, fun _ => h2, fun i hi => h3 i (by omega)⟩
 have HROW := Lib.hid hrow
 have HA := Lib.hid (show _ ∧ _ from ⟨hA, hb1⟩)
 have HN := Lib.hid hn
 clear hrow hA hb1 hs hn
 go_enter Tryz.func56, Tryz.ntmps56
 go_wp2
 go_loopw [4, 3] (fun i v wr => ∃ (j : Nat) (A1 : Option Addr) (c1 : Nat), j ≤ n ∧ j ≤ 4 ∧ i = .int .i64 (j : Int) ∧ v = .slice A1 j c1 ∧ Hid (wr.ownsRow w.heap.size 9 1 (.slice A1 j c1) j (strV ((xL L).take j)) ∧ Below w.heap.size w wr ∧ ∀ i, i < j → ∀ k, k < (L.getD i []).length → (L.getD i []).getD k [] ≠ [])) (fun i _ _ => 4 - (intOf i).toNat)
 case atStart => exact ⟨0, none, 0, by omega, by omega, rfl, rfl, Lib.hid ⟨World.ownsRow_nil w _ _ 1, Below.refl _ _, fun i hi => by omega⟩⟩
 case round =>
  obtain ⟨j, A1, c1, hj, hj4, rfl, rfl, HH⟩ := hrel
  by_cases hlt : j < n
  ·
   have hj0 : (j : Int) < (n : Int) := by omega
   by_cases h4 : j < 4
   ·
    have hj40 : (j : Int) < 4 := by omega
    obtain rfl := HA.out.1 (by omega)
    have hb1 := HA.out.2 (by omega)
    obtain ⟨A2, c2, hc2, hs2⟩ := HROW.out j hlt
    have hcj : wr.cell? ⟨b1, o1 + j, none⟩ = some (.slice A2 (L.getD j []).length c2) := (HH.out.2.1.cell (p := ⟨b1, o1 + j, none⟩) hb1).trans hc2
    obtain ⟨r, hr⟩ : ∃ r, L.getD j [] = r := ⟨_, rfl⟩
    obtain ⟨ln, hln⟩ : ∃ ln, r.length = ln := ⟨_, rfl⟩
    rw [hr] at hcj hs2
    rw [hln] at hcj
    have HCJ := Lib.hid hcj
    have HS2 := Lib.hid (Strs.on hs2 HH.out.2.1)
    have HR := Lib.hid (show _ ∧ _ from ⟨hr, hln⟩)
    clear hc2 hs2 hcj hr hln
    by_cases h44 : 44 < ln
    · have h440 : (44 : Int) < (ln : Int) := by omega
      have HF := Lib.hid (show cmplL L = false from cmpl_long (i := j) (by rw [HN.out]; exact hlt) (by rw [HR.out.1, HR.out.2]; exact h44))
      go_wp2_with (first
       | ((with_reducible refine at_load_ (d := 20) ?_); refine wpList_load_c rfl _ _ rfl b1 (o1 + j) rfl _ HCJ.out (fun w => by kernel_rfl) ?_))
      go_ret
      exact ⟨by rw [HF.out]; rfl, HH.out.2.1⟩
    ·
     have h440 : ((44 : Int) < (ln : Int)) = False := by simp; omega
     have h45 : ln ≤ 44 := by omega
     go_wp2_with (first
      | ((with_reducible refine at_load_ (d := 20) ?_); refine wpList_load_c rfl _ _ rfl b1 (o1 + j) rfl _ HCJ.out (fun w => by kernel_rfl) ?_))
     clear h440 h44
     go_loopw [6, 5] (fun i v wq => ∃ (k : Nat) (s : ByteArray), k ≤ ln ∧ i = .int .i64 (k : Int) ∧ v = .string s ∧ s.size ≤ k ∧ Hid (s = S (List.replicate k 120) ∧ wr = wq ∧ ∀ m, m < k → r.getD m [] ≠ [])) (fun i _ _ => ln - (intOf i).toNat)
     case atStart => exact ⟨0, ⟨#[]⟩, by omega, rfl, rfl, by decide, Lib.hid ⟨rfl, rfl, fun m hm => by omega⟩⟩
     case round =>
      obtain ⟨k, s, hk, rfl, rfl, hsz, HK⟩ := hrel
      obtain rfl := HK.out.2.1
      by_cases hlk : k < ln
      ·
       have hk0 : (k : Int) < (ln : Int) := by omega
       obtain ⟨b2, o2, rfl, hc3⟩ := HS2.out.cell1 (i := k) (by rw [HR.out.2]; exact hlk)
       obtain ⟨x, hx⟩ : ∃ x, r.getD k [] = x := ⟨_, rfl⟩
       rw [hx] at hc3
       have HC3 := Lib.hid hc3
       have HX := Lib.hid hx
       have hem := eqs_nil x
       clear hc3 hx
       by_cases hx0 : x = []
       · have HF := Lib.hid (show cmplL L = false from cmpl_gap (i := j) (k := k) (by rw [HN.out]; exact hlt) (by rw [HR.out.1, HR.out.2]; exact hlk) (by rw [HR.out.1, HX.out, hx0]))
         have hemp : (S x).toList.isEmpty = true := by rw [hem, hx0]; rfl
         obtain ⟨sx, hsx⟩ : ∃ sx, S x = sx := ⟨_, rfl⟩
         rw [hsx] at HC3 hemp
         clear hx0 hsx hem
         go_wp2_with (first
          | ((with_reducible refine at_load_ (d := 27) ?_); refine wpList_load_c rfl _ _ rfl b1 (o1 + j) rfl _ HCJ.out (fun w => by kernel_rfl) ?_)
          | ((with_reducible refine at_load_ (d := 35) ?_); refine wpList_load_c rfl _ _ rfl b1 (o1 + j) rfl _ HCJ.out (fun w => by kernel_rfl) ?_)
          | ((with_reducible refine at_load_ (d := 38) ?_); refine wpList_load_c rfl _ _ rfl b2 (o2 + k) rfl _ HC3.out (fun w => by kernel_rfl) ?_))
         go_ret
         exact ⟨by rw [HF.out]; rfl, HH.out.2.1⟩
       ·
        have hemp : (S x).toList.isEmpty = false := by rw [hem]; simpa using hx0
        obtain ⟨sx, hsx⟩ : ∃ sx, S x = sx := ⟨_, rfl⟩
        rw [hsx] at HC3 hemp
        have HX0 := Lib.hid hx0
        clear hx0 hsx hem
        have hs44 : s.size ≤ 44 := by omega
        go_wp2_with (first
         | ((with_reducible refine at_load_ (d := 27) ?_); refine wpList_load_c rfl _ _ rfl b1 (o1 + j) rfl _ HCJ.out (fun w => by kernel_rfl) ?_)
         | ((with_reducible refine at_load_ (d := 35) ?_); refine wpList_load_c rfl _ _ rfl b1 (o1 + j) rfl _ HCJ.out (fun w => by kernel_rfl) ?_)
         | ((with_reducible refine at_load_ (d := 38) ?_); refine wpList_load_c rfl _ _ rfl b2 (o2 + k) rfl _ HC3.out (fun w => by kernel_rfl) ?_)
         | ((with_reducible refine at_any_ (d := 31) ?_); refine wpList_add1 rfl _ _ _ rfl k rfl rfl (by omega) ?_))
        go_roundw
        case rel =>
         refine ⟨k + 1, _, by omega, by first | rfl | go_num, rfl, by rw [ByteArray.size_append]; exact Nat.add_le_add hsz (by decide), Lib.hid ⟨?_, by first | rfl | trivial, fun m hm => ?_⟩⟩
         · rw [HK.out.1, List.replicate_succ', ← S_append]; rfl
         · by_cases e : m = k
           · rw [e, HX.out]; exact HX0.out
           · exact HK.out.2.2 m (by omega)
        case measure => simp [intOf]; omega
      ·
       obtain rfl : k = ln := by omega
       obtain ⟨q1, q2, q3⟩ := HH.out
       have HQ := Lib.hid q1
       have HQ2 := Lib.hid q2
       clear q1 q2 q3
       go_wp2_with (first
        | ((with_reducible refine at_load_ (d := 27) ?_); refine wpList_load_c rfl _ _ rfl b1 (o1 + j) rfl _ HCJ.out (fun w => by kernel_rfl) ?_)
        | ((with_reducible refine at_any_ (d := 16) ?_); refine wpList_add1 rfl _ _ _ rfl j rfl rfl (by omega) ?_)
        | ((with_reducible refine at_call_ (d := 45) ?_); (refine wpList_append_own _ rfl (.tmp 42) (.tmp 44) 25 rfl w.heap.size 9 i0 (.string ⟨#[]⟩) 1 16 Tryz.underlying25 hi hz0 hz1 hz2 rfl (by decide) (.slice A1 j c1) j _ rfl (HQ.out.alloc _) ⟨_, 0, none⟩ 1 1 [_] rfl rfl (news_of_one _ _ _) (one_str _) (by unfold maxLen; omega) (by omega) (by have := HQ2.out.size; simp; omega) ?_; intro v3 w3 ho3 hg3 _; obtain ⟨A3, c3, rfl⟩ := own_len ho3; have HRR := Lib.hid (show _ ∧ _ from ⟨ho3, hg3⟩); clear ho3 hg3)))
       go_roundw
       case rel =>
        obtain ⟨h1, h2⟩ := HRR.out
        refine ⟨j + 1, A3, c3, by omega, by omega, by first | rfl | go_num, rfl, Lib.hid ⟨?_, ?_, fun i hi m hm => ?_⟩⟩
        · rw [xL_take L (by rw [HN.out]; exact hlt), HR.out.1, HR.out.2]
          have e2 : strV ((xL L).take j ++ [List.replicate k 120]) = strV ((xL L).take j) ++ [Value.string (S (List.replicate k 120))] := by simp [strV]
          rw [e2, ← HK.out.1]
          exact h1
        · exact (HQ2.out.alloc HQ2.out.size _).grown h2 (by have := HQ2.out.size; simp; omega) (fun k' e => (HQ.out.lt k' e).1)
        · by_cases e : i = j
          · subst e
            rw [HR.out.1] at hm ⊢
            exact HK.out.2.2 m (by rw [HR.out.2] at hm; exact hm)
          · exact HH.out.2.2 i (by omega) m hm
       case measure => simp [intOf]; omega
   · obtain rfl : j = 4 := by omega
     have HF := Lib.hid (show cmplL L = false from cmpl_many (by rw [HN.out]; omega))
     have hn4 : ((n : Int) < 4) = False := by simp; omega
     go_wp2
     go_ret
     exact ⟨by rw [HF.out]; rfl, HH.out.2.1⟩
  ·
   obtain rfl : j = n := by omega
   by_cases h4 : j < 4
   ·
    have hn4 : (j : Int) < 4 := by omega
    obtain ⟨v, hv⟩ : ∃ v, shapeL (xL L) = v := ⟨_, rfl⟩
    have hst := Sees.of_own HH.out.1
    rw [List.take_of_length_le (by rw [xL_len, HN.out]; exact Nat.le_refl _)] at hst
    have HSH := Lib.hid (fun c => r_shape (xL L) A1 j c (by rw [xL_len]; exact HN.out) v hv wr hst)
    have HV := Lib.hid hv
    have HC : Hid (cmplL L = !(v == 0)) := Lib.hid (by
     unfold cmplL
     rw [hv]
     have : (L.all fun r => r.all fun s => s != []) = true := by
      rw [List.all_eq_true]
      intro r hr
      obtain ⟨i, hi, rfl⟩ := List.getElem_of_mem hr
      rw [List.all_eq_true]
      intro s hs
      obtain ⟨k, hk, rfl⟩ := List.getElem_of_mem hs
      have e : L.getD i [] = L[i] := by rw [List.getD_eq_getElem?_getD, List.getElem?_eq_getElem hi]; rfl
      have := HH.out.2.2 i (by rw [← HN.out]; exact hi) k (by rw [e]; exact hk)
      rw [e, List.getD_eq_getElem?_getD, List.getElem?_eq_getElem hk, Option.getD_some] at this
      simpa using this
     rw [this]
     simp [bne])
    clear hv hst
    go_wp2_with (first
     | (go_at_call 40; ((with_reducible refine (HSH.out _).mono ?_); rintro e w5 ⟨rfl, hb5⟩); have HB5 := Lib.hid hb5; clear hb5))
    go_ret
    exact ⟨by rw [HC.out]; rfl, below_on HH.out.2.1 HB5.out⟩
   · have hn4 : ((j : Int) < 4) = False := by simp; omega
     have HF := Lib.hid (show cmplL L = false from cmpl_many (by rw [HN.out]; omega))
     go_wp2
     go_ret
     exact ⟨by rw [HF.out]; rfl, HH.out.2.1⟩
theorem mul_n (a b p : Nat) (h : a * b = p) (hp : p ≤ 1048576) (x y : Operand) (w : World) : (do eqGuard .mul 3 x y (.int .i64 (a : Int)) (.int .i64 (b : Int)); binOp .mul 3 (.int .i64 (a : Int)) (.int .i64 (b : Int))).run Tryz.prog w = .ok (.int .i64 (p : Int)) w := by
 have h1 : (a : Int) * (b : Int) = (p : Int) := by rw [← h]; simp
 have h2 : IntKind.i64.wrap (p : Int) = (p : Int) := wrap_small _ (by omega) (by omega)
 simp only [eqGuard, binOp, go_sem, h1]
 first | done | rfl | simp [h2]
set_option maxHeartbeats 3200000 in
set_option maxRecDepth 20000 in
theorem r_count (L : List (List (List UInt8))) (A : Option Addr) (n c : Nat) (hn : L.length = n) (hf : ∀ r ∈ L, ∀ s ∈ r, s.length ≤ 4611686018427387904) (w : World) (hs : Rdg w A L) :
 Calls Tryz.prog 26 #[.slice A n c] w fun e w' => e = .returned (.tuple #[.int .i64 (cntV L : Int), .int .i64 (cntE L)]) ∧ Below w.heap.size w w' := by
 obtain ⟨b, hb⟩ : ∃ b, cmplL L = b := ⟨_, rfl⟩
 have HC := Lib.hid (r_complete L A n c hn w hs)
 rw [hb] at HC
 have HS := Lib.hid hs
 have HN := Lib.hid hn
 have HF := Lib.hid hf
 clear hs hf
 rcases b with _ | _
 · have HE := Lib.hid (show cntE L = 1 by unfold cntE; rw [if_pos hb])
   have HV := Lib.hid (show cntV L = 0 by unfold cntV; rw [HE.out, if_neg (by decide)])
   clear hn hb
   go_enter Tryz.func26, Tryz.ntmps26
   go_wp2_with (go_at_call 56; ((with_reducible refine HC.out.mono ?_); rintro e w1 ⟨rfl, hb1⟩); have HB1 := Lib.hid hb1; clear hb1)
   go_ret2
   exact ⟨by rw [HE.out, HV.out]; rfl, HB1.out⟩
 ·
  have hn3 : n = 2 ∨ n = 3 := by rw [← hn]; exact comp_len hb
  have hn4 : n ≤ 3 := by rcases hn3 with h | h <;> omega
  obtain ⟨b1, o1, rfl, hb1, hrow⟩ := HS.out.open_ (by omega)
  have HROW := Lib.hid hrow
  have HCB := Lib.hid hb
  have HP := Lib.hid (dst_pos hb)
  clear hn hb hn3 hrow
  go_enter Tryz.func26, Tryz.ntmps26
  go_wp2_with (go_at_call 56; ((with_reducible refine HC.out.mono ?_); rintro e w1 ⟨rfl, hb2⟩); have HB1 := Lib.hid hb2; clear hb2)
  go_loopw [5, 4] (fun i v wr => ∃ (j N : Nat), j ≤ n ∧ i = .int .i64 (j : Int) ∧ v = .int .i64 (N : Int) ∧ N ≤ 4096 ∧ Hid (N = sizeS ((dst L).take j) ∧ Below w.heap.size w wr)) (fun i _ _ => n - (intOf i).toNat)
  case atStart => exact ⟨0, 1, by omega, rfl, rfl, by omega, Lib.hid ⟨rfl, HB1.out⟩⟩
  case round =>
   obtain ⟨j, N, hj, rfl, rfl, hN, HH⟩ := hrel
   by_cases hlt : j < n
   ·
    have hj0 : (j : Int) < (n : Int) := by omega
    have hjl : j < L.length := by rw [HN.out]; exact hlt
    obtain ⟨A1, c1, hc1, hs1⟩ := HROW.out j hjl
    have hr44 := (comp_row HCB.out hjl).1
    have hr30 := (comp_row HCB.out hjl).2
    obtain ⟨r, hr⟩ : ∃ r, L.getD j [] = r := ⟨_, rfl⟩
    obtain ⟨ln, hln⟩ : ∃ ln, r.length = ln := ⟨_, rfl⟩
    rw [hr] at hs1 hc1 hr44 hr30
    obtain ⟨b2, o2, rfl, hb2, hpl⟩ := hs1.cell (by omega)
    rw [hln] at hc1 hr44 hpl
    have HC1 := Lib.hid hc1
    have HPL := Lib.hid hpl
    have HR := Lib.hid (show _ ∧ _ ∧ _ from ⟨hjl, hr, hln⟩)
    clear hc1 hs1 hr hln hjl hpl hr30
    go_wp2
    go_loopw [6, 4] (fun i v wq => ∃ (k N : Nat), k ≤ ln ∧ i = .int .i64 (k : Int) ∧ v = .int .i64 (N : Int) ∧ N ≤ 4096 ∧ Hid (N = cnt2 (dst L) j k ∧ Below w.heap.size w wq)) (fun i _ _ => ln - (intOf i).toNat)
    case atStart => exact ⟨0, N, by omega, rfl, rfl, hN, Lib.hid ⟨by rw [cnt2_zero]; exact HH.out.1, HH.out.2⟩⟩
    case round =>
     clear hN HH
     obtain ⟨k, N, hk, rfl, rfl, hN, HH⟩ := hrel
     by_cases hlk : k < ln
     ·
      have hk0 : (k : Int) < (ln : Int) := by omega
      have hkr : k < r.length := by rw [HR.out.2.2]; exact hlk
      have hc2 := (HH.out.2.cell (p := ⟨b2, o2 + k, none⟩) hb2).trans (HPL.out k hlk)
      obtain ⟨x, hx⟩ : ∃ x, r.getD k [] = x := ⟨_, rfl⟩
      obtain ⟨m, hm⟩ : ∃ m, (sortU x).length = m := ⟨_, rfl⟩
      obtain ⟨P, hP⟩ : ∃ P, N * m = P := ⟨_, rfl⟩
      have hm2 : m ≤ 256 := by rw [← hm]; exact sortU_len x
      have hP2 : P ≤ 1048576 := by rw [← hP]; exact Nat.le_trans (Nat.mul_le_mul hN hm2) (by decide)
      have HMU := Lib.hid (fun x y w => mul_n N m P hP hP2 x y w)
      rw [hx] at hc2
      have HC2 := Lib.hid hc2
      have HCR := Lib.hid (show _ from (HH.out.2.cell (p := ⟨b1, o1 + j, none⟩) hb1).trans HC1.out)
      have hxl : x.length ≤ 4611686018427387904 := by
       have hm1 : r ∈ L := by rw [← HR.out.2.1, List.getD_eq_getElem?_getD, List.getElem?_eq_getElem HR.out.1]; exact List.getElem_mem _
       have hm2 : x ∈ r := by rw [← hx, List.getD_eq_getElem?_getD, List.getElem?_eq_getElem hkr]; exact List.getElem_mem _
       exact HF.out r hm1 x hm2
      have hnx : cnt2 (dst L) j (k + 1) = P := by
       rw [cnt2_next _ (by rw [dst_row_len L HR.out.1, HR.out.2.1]; exact hkr), dst_get2 L HR.out.1 (by rw [HR.out.2.1]; exact hkr), HR.out.2.1, hx, hm, ← HH.out.1, hP]
      have HD := Lib.hid (fun w => r_sorted x hxl w)
      obtain ⟨so, hso⟩ : ∃ so, S (sortU x) = so := ⟨_, rfl⟩
      have hsz2 : so.size = m := by rw [← hso, S_size, hm]
      have hsz : (so.size : Int) = (m : Int) := by omega
      rw [hso] at HD
      have HNX := Lib.hid hnx
      clear hc2 hx hm hP hxl hnx hkr hso hsz2
      by_cases hg : (4096 : Int) < (P : Int)
      ·
       go_wp2_with (first
        | ((with_reducible refine at_load_ (d := 20) ?_); refine wpList_load_c rfl _ _ rfl b1 (o1 + j) rfl _ HCR.out (fun w => by kernel_rfl) ?_)
        | ((with_reducible refine at_load_ (d := 29) ?_); refine wpList_load_c rfl _ _ rfl b1 (o1 + j) rfl _ HCR.out (fun w => by kernel_rfl) ?_)
        | ((with_reducible refine at_load_ (d := 32) ?_); refine wpList_load_c rfl _ _ rfl b2 (o2 + k) rfl _ HC2.out (fun w => by kernel_rfl) ?_)
        | ((with_reducible refine at_any_ (d := 35) ?_); refine wpList_bin rfl _ _ _ _ _ rfl (v := .int .i64 (P : Int)) rfl (by first | rfl | go_simp) (HMU.out _ _ _) ?_)
        | (go_at_call 44; ((with_reducible refine (HD.out _).mono ?_); rintro e w3 ⟨rfl, rfl⟩)))
       go_ret2
       have e1 : 4096 < sizeS (dst L) := by
        have := cnt2_le (dst L) HP.out (i := j) (k := k + 1) (by rw [dst_len]; exact HR.out.1)
        rw [HNX.out] at this
        omega
       have e2 : cntE L = 24 := by unfold cntE; rw [if_neg (by rw [HCB.out]; decide), if_pos e1]
       have e3 : cntV L = 0 := by unfold cntV; rw [e2, if_neg (by decide)]
       exact ⟨by rw [e2, e3]; rfl, HH.out.2⟩
      · have hgf : ((4096 : Int) < (P : Int)) = False := by simp; omega
        go_wp2_with (first
         | ((with_reducible refine at_load_ (d := 20) ?_); refine wpList_load_c rfl _ _ rfl b1 (o1 + j) rfl _ HCR.out (fun w => by kernel_rfl) ?_)
         | ((with_reducible refine at_load_ (d := 29) ?_); refine wpList_load_c rfl _ _ rfl b1 (o1 + j) rfl _ HCR.out (fun w => by kernel_rfl) ?_)
         | ((with_reducible refine at_load_ (d := 32) ?_); refine wpList_load_c rfl _ _ rfl b2 (o2 + k) rfl _ HC2.out (fun w => by kernel_rfl) ?_)
         | ((with_reducible refine at_any_ (d := 24) ?_); refine wpList_add1 rfl _ _ _ rfl k rfl rfl (by omega) ?_)
         | ((with_reducible refine at_any_ (d := 35) ?_); refine wpList_bin rfl _ _ _ _ _ rfl (v := .int .i64 (P : Int)) rfl (by first | rfl | go_simp) (HMU.out _ _ _) ?_)
         | (go_at_call 44; ((with_reducible refine (HD.out _).mono ?_); rintro e w3 ⟨rfl, rfl⟩)))
        go_roundw
        case rel => exact ⟨k + 1, P, by omega, by first | rfl | go_num, rfl, by omega, Lib.hid ⟨HNX.out.symm, HH.out.2⟩⟩
        case measure => simp [intOf]; omega
     · obtain rfl : k = ln := by omega
       have HCR := Lib.hid (show _ from (HH.out.2.cell (p := ⟨b1, o1 + j, none⟩) hb1).trans HC1.out)
       go_wp2_with (first
        | ((with_reducible refine at_load_ (d := 20) ?_); refine wpList_load_c rfl _ _ rfl b1 (o1 + j) rfl _ HCR.out (fun w => by kernel_rfl) ?_)
        | ((with_reducible refine at_any_ (d := 15) ?_); refine wpList_add1 rfl _ _ _ rfl j rfl rfl (by omega) ?_))
       go_roundw
       case rel => exact ⟨j + 1, N, by omega, by first | rfl | go_num, rfl, hN, Lib.hid ⟨by rw [HH.out.1]; exact cnt2_row (dst L) (by rw [dst_len]; exact HR.out.1) (by rw [dst_row_len L HR.out.1, HR.out.2.1, HR.out.2.2]; exact Nat.le_refl _), HH.out.2⟩⟩
       case measure => simp [intOf]; omega
   · obtain rfl : j = n := by omega
     go_wp2
     go_ret2
     have e1 : sizeS (dst L) = N := by rw [HH.out.1, List.take_of_length_le (by rw [dst_len, HN.out]; exact Nat.le_refl _)]
     have e2 : cntE L = 0 := by unfold cntE; rw [if_neg (by rw [HCB.out]; decide), e1, if_neg (by omega)]
     have e3 : cntV L = N := by unfold cntV; rw [if_pos e2, e1]
     exact ⟨by rw [e2, e3]; rfl, HH.out.2⟩
theorem size_u8c : (Tryz.prog.info? 5).map (·.size) = some 1 := by kernel_rfl
def downV {α : Type} (z : α) (d : List α) (j : Nat) : List α := List.replicate j z ++ d.drop j
theorem downV_len {α : Type} (z : α) (d : List α) {j : Nat} (h : j ≤ d.length) : (downV z d j).length = d.length := by unfold downV; rw [List.length_append, List.length_replicate, List.length_drop]; omega
theorem downV_all {α : Type} (z : α) (d : List α) {n : Nat} (h : d.length = n) : downV z d n = List.replicate n z := by unfold downV; rw [List.drop_eq_nil_of_le (by omega), List.append_nil]
theorem downV_set {α : Type} (z d0 : α) (d : List α) {k : Nat} (h : k < d.length) : (downV z d (k + 1)).set k (d.getD k d0) = downV z d k := fill_down z d0 d h
theorem strV_getD (ls : List (List UInt8)) {k : Nat} (h : k < ls.length) (d0 : Value) : (strV ls).getD k d0 = .string (S (ls.getD k [])) := by simp [strV, List.getD, h]
theorem Us_getD (x : List UInt8) {k : Nat} (h : k < x.length) (d0 : Value) : (Us x).getD k d0 = U (x.getD k 0) := by simp [Us, List.getD, h]
set_option maxHeartbeats 6400000 in
set_option maxRecDepth 40000 in
theorem r_choice (L D : List (List (List UInt8))) (hcp : cmplL L = true) (hf : ∀ r ∈ L, ∀ s ∈ r, s.length ≤ 4611686018427387904) (hD : dst L = D) (N : Nat) (hN : N ≤ 1000000) (A : Option Addr) (n c : Nat) (hn : L.length = n) (w : World) (hs : Rdg w A L) :
 Calls Tryz.prog 51 #[.slice A n c, .int .i64 (N : Int)] w fun e w' => ∃ g, e = .returned (.slice (some ⟨g, 0, none⟩) n n) ∧ w.heap.size ≤ g ∧ RowV w' g (strV (numS D N)) ∧ Below w.heap.size w w' := by
 have hn3 : n = 2 ∨ n = 3 := by rw [← hn]; exact comp_len hcp
 have hn4 : n ≤ 3 := by rcases hn3 with h | h <;> omega
 obtain ⟨b1, o1, rfl, hb1, hrow⟩ := hs.open_ (by omega)
 have hdn : D.length = n := by rw [← hD, dst_len, hn]
 have HN3 := Lib.hid hn3
 have HROW := Lib.hid hrow
 have HN := Lib.hid (show _ ∧ _ ∧ _ from ⟨hn, hdn, hD⟩)
 have HCP := Lib.hid (show _ ∧ _ from ⟨hcp, hf⟩)
 have HO := Lib.hid (Own.start w)
 have HSN : Hid ((strV (numS D N)).length = n) := Lib.hid (by rw [strV_len, numS_length, hdn])
 clear hrow hn hdn hcp hf hD hs hn3
 go_enter Tryz.func51, Tryz.ntmps51
 go_wp2_with (first
  | ((with_reducible refine at_make_ (d := 12) ?_); refine wpList_make_v rfl _ _ _ rfl _ _ rfl rfl (List.replicate n (Value.string ⟨#[]⟩)) n _ (mk_strs n HN3.out _) ?_; intro g5 v12 hf hr; replace HO := Lib.hid (HO.out.new hf hr); clear hf hr)
  | ((with_reducible refine at_any_ (d := 15) ?_); refine wpList_bin rfl _ _ _ _ _ rfl (v := .int .i64 ((n : Int) - 1)) rfl rfl (sub_n1 n (by omega) _ _ _) ?_))
 replace HO : Hid (Own w _ [(g5, List.replicate n (Value.string ⟨#[]⟩))]) := HO
 go_loopw [6, 1] (fun i v wr => ∃ (j M : Nat), j ≤ n ∧ i = .int .i64 ((j : Int) - 1) ∧ v = .int .i64 (M : Int) ∧ M ≤ 1000000 ∧ Hid (M = N / sizeS (D.drop j)) ∧ Hid (Own w wr [(g5, downV (Value.string ⟨#[]⟩) (strV (numS D N)) j)])) (fun i _ _ => (intOf i + 1).toNat)
 case atStart => exact ⟨n, N, Nat.le_refl _, rfl, rfl, hN, Lib.hid (by rw [List.drop_eq_nil_of_le (by rw [HN.out.2.1]; exact Nat.le_refl _)]; show N = N / 1; rw [Nat.div_one]), Lib.hid (by rw [downV_all _ _ HSN.out]; exact HO.out)⟩
 case round =>
  clear HO
  obtain ⟨j, M, hj, hi, rfl, hM, HM, HO⟩ := hrel
  rcases j with _ | k
  · obtain rfl := hi.trans (show Value.int .i64 (((0 : Nat) : Int) - 1) = .int .i64 (-1) from rfl)
    go_wp2
    go_ret
    have h1 := HO.out.row (i := 0) rfl
    exact ⟨_, rfl, HO.out.ge (i := 0) rfl, h1, HO.out.bl⟩
  ·
   obtain rfl := hi.trans (show Value.int .i64 (((k + 1 : Nat) : Int) - 1) = .int .i64 (k : Int) from by congr 1; omega)
   have hk0 : (0 : Int) ≤ (k : Int) := by omega
   have hkn : (k : Int) < (n : Int) := by omega
   have hkl : k < L.length := by rw [HN.out.1]; omega
   obtain ⟨A1, c1, hc1, hs1⟩ := HROW.out k hkl
   have hr44 := (comp_row HCP.out.1 hkl).1
   have hr30 := (comp_row HCP.out.1 hkl).2
   have hdr := dst_get L hkl
   obtain ⟨r, hr⟩ : ∃ r, L.getD k [] = r := ⟨_, rfl⟩
   obtain ⟨ln, hln⟩ : ∃ ln, r.length = ln := ⟨_, rfl⟩
   rw [hr] at hs1 hc1 hr44 hr30 hdr
   rw [HN.out.2.2] at hdr
   obtain ⟨b2, o2, rfl, hb2, hpl⟩ := hs1.cell (by omega)
   rw [hln] at hc1 hr44 hpl
   obtain ⟨Dk, hDk⟩ : ∃ Dk, D.getD k [] = Dk := ⟨_, rfl⟩
   rw [hDk] at hdr
   have hdl : Dk.length = ln := by rw [hdr, List.length_map, hln]
   have HC1 := Lib.hid hc1
   have HPL := Lib.hid hpl
   have HR := Lib.hid (show _ ∧ _ ∧ _ ∧ _ ∧ _ ∧ _ from ⟨hkl, hr, hln, hDk, hdr, hdl⟩)
   have HDL : Hid ((Us (digs Dk M)).length = ln) := Lib.hid (by rw [show (Us (digs Dk M)).length = (digs Dk M).length from by simp [Us], digs_length, hdl])
   have HCR0 := Lib.hid (show _ from (HO.out.bl.cell (p := ⟨b1, o1 + k, none⟩) hb1).trans HC1.out)
   clear hc1 hs1 hr hln hkl hpl hr30 hDk hdr hdl
   go_wp2_with (first
    | ((with_reducible refine at_load_ (d := 23) ?_); refine wpList_load_c rfl _ _ rfl b1 (o1 + k) rfl _ ((HO.out.bl.cell (p := ⟨b1, o1 + k, none⟩) hb1).trans HC1.out) (fun w => by kernel_rfl) ?_)
    | ((with_reducible refine at_load_ (d := 29) ?_); refine wpList_load_c rfl _ _ rfl b1 (o1 + k) rfl _ ((HO.out.bl.cell (p := ⟨b1, o1 + k, none⟩) hb1).trans HC1.out) (fun w => by kernel_rfl) ?_)
    | ((with_reducible refine at_make_ (d := 25) ?_); refine wpList_make_v rfl _ _ _ rfl _ _ rfl rfl (List.replicate ln (Value.int .u8 0)) ln _ (mk_row8 ln (by omega) _) ?_; intro g7 v25 hf hr; replace HO := Lib.hid (HO.out.new hf hr); clear hf hr)
    | ((with_reducible refine at_any_ (d := 31) ?_); refine wpList_bin rfl _ _ _ _ _ rfl (v := .int .i64 ((ln : Int) - 1)) rfl rfl (sub_n1 ln (by omega) _ _ _) ?_))
   replace HO : Hid (Own w _ [(g5, downV (Value.string ⟨#[]⟩) (strV (numS D N)) (k + 1)), (g7, List.replicate ln (Value.int .u8 0))]) := HO
   go_loopw [8, 1] (fun i v wq => ∃ (t M2 : Nat), t ≤ ln ∧ i = .int .i64 ((t : Int) - 1) ∧ v = .int .i64 (M2 : Int) ∧ M2 ≤ 1000000 ∧ Hid (M2 = M / sizeL (Dk.drop t)) ∧ Hid (Own w wq [(g5, downV (Value.string ⟨#[]⟩) (strV (numS D N)) (k + 1)), (g7, downV (Value.int .u8 0) (Us (digs Dk M)) t)])) (fun i _ _ => (intOf i + 1).toNat)
   case atStart => exact ⟨ln, M, Nat.le_refl _, rfl, rfl, hM, Lib.hid (by rw [List.drop_eq_nil_of_le (by rw [HR.out.2.2.2.2.2]; exact Nat.le_refl _)]; show M = M / 1; rw [Nat.div_one]), Lib.hid (by rw [downV_all _ _ HDL.out]; exact HO.out)⟩
   case round =>
    clear HO
    obtain ⟨t, M2, ht, hi, rfl, hM2, HMM, HO⟩ := hrel
    rcases t with _ | m
    ·
     obtain rfl := hi.trans (show Value.int .i64 (((0 : Nat) : Int) - 1) = .int .i64 (-1) from rfl)
     have h7 := HO.out.row (i := 1) rfl
     rw [show downV (Value.int .u8 0) (Us (digs Dk M)) 0 = Us (digs Dk M) from rfl] at h7
     have hcw := run_conv wr wr.heap.size (some ⟨g7, 0, none⟩) (digs Dk M) h7.sees0 ln ln (by rw [digs_length]; exact HR.out.2.2.2.2.2.symm)
     clear h7
     go_wp2_with (first
      | ((with_reducible refine at_store_ (i := 65) ?_); refine wpList_store_at rfl _ (.tmp 65) _ rfl g5 k _ (.string (S (digs Dk M))) rfl rfl (HO.out.row (i := 0) rfl) (by rw [downV_len _ _ (by rw [HSN.out]; omega), HSN.out]; omega) rfl rfl size_st ?_; intro v5 hw hr; replace HO := Lib.hid (HO.out.set (i := 0) rfl hw hr); clear hw hr)
      | ((with_reducible refine at_any_ (d := 19) ?_); refine wpList_bin rfl _ _ _ _ _ rfl (v := .int .i64 ((k : Int) - 1)) rfl rfl (sub_n1 k (by omega) _ _ _) ?_))
     go_roundw
     case rel =>
      refine ⟨k, M2, by omega, by first | rfl | go_num, rfl, hM2, Lib.hid ?_, Lib.hid ?_⟩
      · rw [HMM.out, HM.out, sizeS_drop D (i := k) (by rw [HN.out.2.1]; omega), HR.out.2.2.2.1, Nat.mul_comm, Nat.div_div_eq_div_mul]
        rfl
      · have h1 := Own.pre (L := [_]) (M := [_]) HO.out
        have e : (downV (Value.string ⟨#[]⟩) (strV (numS D N)) (k + 1)).set k (.string (S (digs Dk M))) = downV (Value.string ⟨#[]⟩) (strV (numS D N)) k := by
         rw [← downV_set _ (.string ⟨#[]⟩) (strV (numS D N)) (k := k) (by rw [HSN.out]; omega), strV_getD _ (by rw [numS_length, HN.out.2.1]; omega), numS_at D N k (by rw [HN.out.2.1]; omega), HR.out.2.2.2.1, HM.out]
        rw [e] at h1
        exact h1
     case measure => simp [intOf] <;> omega
    ·
     obtain rfl := hi.trans (show Value.int .i64 (((m + 1 : Nat) : Int) - 1) = .int .i64 (m : Int) from by congr 1; omega)
     have hm0 : (0 : Int) ≤ (m : Int) := by omega
     have hml : (m : Int) < (ln : Int) := by omega
     have hmr : m < r.length := by rw [HR.out.2.2.1]; omega
     have hc2 := (HO.out.bl.cell (p := ⟨b2, o2 + m, none⟩) hb2).trans (HPL.out m (by omega))
     have HCR := Lib.hid (show _ from (HO.out.bl.cell (p := ⟨b1, o1 + k, none⟩) hb1).trans HC1.out)
     obtain ⟨x, hx⟩ : ∃ x, r.getD m [] = x := ⟨_, rfl⟩
     obtain ⟨y, hy⟩ : ∃ y, sortU x = y := ⟨_, rfl⟩
     obtain ⟨q, hq⟩ : ∃ q, y.length = q := ⟨_, rfl⟩
     have hx0 : x ≠ [] := by
      have := comp_ne HCP.out.1 HR.out.1 (k := m) (by rw [HR.out.2.1]; exact hmr)
      rwa [HR.out.2.1, hx] at this
     have hxl : x.length ≤ 4611686018427387904 := by
      have hm1 : r ∈ L := by rw [← HR.out.2.1, List.getD_eq_getElem?_getD, List.getElem?_eq_getElem HR.out.1]; exact List.getElem_mem _
      have hm2 : x ∈ r := by rw [← hx, List.getD_eq_getElem?_getD, List.getElem?_eq_getElem hmr]; exact List.getElem_mem _
      exact HCP.out.2 r hm1 x hm2
     have hq0 : 0 < q := by
      rw [← hq]
      rcases Nat.eq_zero_or_pos y.length with h | h
      · exact absurd (sortU_nil.1 (hy.trans (List.eq_nil_of_length_eq_zero h))) hx0
      · exact h
     have hdy : Dk.getD m [] = y := by rw [HR.out.2.2.2.2.1, ← hy, ← hx]; simp [List.getD, hmr]
     rw [hx] at hc2
     have HY : Hid (Dk.getD m [] = y ∧ y.length = q ∧ m < Dk.length ∧ True) := Lib.hid ⟨hdy, hq, by rw [HR.out.2.2.2.2.2]; omega, trivial⟩
     have HLEN : Hid (m < (downV (Value.int .u8 0) (Us (digs Dk M)) (m + 1)).length) := Lib.hid (by rw [downV_len _ _ (by rw [HDL.out]; omega), HDL.out]; omega)
     have HST : Hid ((downV (Value.int .u8 0) (Us (digs Dk M)) (m + 1)).set m (U (y.getD (M2 % q) 0)) = downV (Value.int .u8 0) (Us (digs Dk M)) m) := Lib.hid (by
      rw [← downV_set _ (.int .u8 0) (Us (digs Dk M)) (k := m) (by rw [HDL.out]; omega), Us_getD _ (by rw [digs_length, HR.out.2.2.2.2.2]; omega), digs_at Dk M m (by rw [HR.out.2.2.2.2.2]; omega), hdy, hq, ← HMM.out])
     have HSO : Hid (∀ w, Calls Tryz.prog 44 #[.string (S x)] w fun e w' => e = .returned (.string (S y)) ∧ w = w') := Lib.hid (fun w => by
      have := r_sorted x hxl w
      rwa [hy] at this)
     have HIX0 : Hid (∀ k, k < q → ∀ w, (Instr.index 9 (.string (S y)) (.int .i64 (k : Int))).run Tryz.prog w = .ok (.int .u8 ((y.getD k 0).toNat : Int)) w) := Lib.hid (by rw [← hq]; exact fun k hk w => str_byte y k hk w)
     obtain ⟨sy, hsy0⟩ : ∃ sy, S y = sy := ⟨_, rfl⟩
     have hsy : sy.size = q := by rw [← hsy0, S_size, hq]
     have hsyi : (sy.size : Int) = (q : Int) := by omega
     have HIX := HIX0
     rw [hsy0] at HIX HSO
     clear HIX0
     by_cases h1 : x.length ≤ 1
     ·
      have e : sortU x = x := by
       refine sortU_fix ?_
       rcases x with _ | ⟨a, _ | ⟨b, x⟩⟩
       · exact List.Pairwise.nil
       · exact List.pairwise_singleton _ _
       · simp at h1
      obtain rfl : y = x := hy.symm.trans e
      rw [hsy0] at hc2
      have hq1 : ((1 : Int) < (q : Int)) = False := by simp; omega
      have HC2 := Lib.hid hc2
      have HX := Lib.hid hx
      clear hc2 hx hy hq hx0 hxl hdy hsy0 h1 e hmr HSO
      go_wp2_with (first
       | ((with_reducible refine at_load_ (d := 39) ?_); refine wpList_load_c rfl _ _ rfl b1 (o1 + k) rfl _ HCR.out (fun w => by kernel_rfl) ?_)
       | ((with_reducible refine at_load_ (d := 42) ?_); refine wpList_load_c rfl _ _ rfl b2 (o2 + m) rfl _ HC2.out (fun w => by kernel_rfl) ?_)
       | ((with_reducible refine at_any_ (d := 54) ?_); refine wpList_bin rfl _ _ _ _ _ rfl (v := .int .i64 ((M2 % q : Nat) : Int)) rfl (by first | rfl | go_simp) (rem_n M2 q hq0 hM2 _ _ _) ?_)
       | ((with_reducible refine at_any_ (d := 55) ?_); refine wpList_ix rfl _ _ _ rfl (v := .int .u8 ((y.getD (M2 % q) 0).toNat : Int)) rfl rfl (HIX.out (M2 % q) (Nat.mod_lt _ hq0) _) ?_)
       | ((with_reducible refine at_any_ (d := 60) ?_); refine wpList_bin rfl _ _ _ _ _ rfl (v := .int .i64 ((M2 / q : Nat) : Int)) rfl (by first | rfl | go_simp) (quo_n M2 q hq0 hM2 _ _ _) ?_)
       | (go_at_call 44; ((with_reducible refine (HSO.out _).mono ?_); rintro e w3 ⟨rfl, rfl⟩))
       | ((with_reducible refine at_store_ (i := 56) ?_); refine wpList_store_at rfl _ (.tmp 56) _ rfl g7 m _ (U (y.getD (M2 % q) 0)) rfl rfl (HO.out.row (i := 1) rfl) (HLEN.out) rfl rfl size_u8c ?_; intro v7 hw hr; replace HO := Lib.hid (HO.out.set (i := 1) rfl hw hr); clear hw hr))
      go_roundw
      case rel =>
       have h1 := HO.out
       refine ⟨m, M2 / q, by omega, by first | rfl | go_num, by first | rfl | go_num, Nat.le_trans (Nat.div_le_self _ _) hM2, Lib.hid ?_, Lib.hid ?_⟩
       · rw [HMM.out, sizeL_drop _ HY.out.2.2.1, HY.out.1, HY.out.2.1, Nat.mul_comm, Nat.div_div_eq_div_mul]
       · rw [HST.out] at h1
         exact h1
      case measure => simp [intOf] <;> omega
     ·
      obtain ⟨sx, hsx0⟩ : ∃ sx, S x = sx := ⟨_, rfl⟩
      have hsx : sx.size = x.length := by rw [← hsx0, S_size]
      have hsxi : (1 : Int) < (sx.size : Int) := by omega
      rw [hsx0] at hc2 HSO
      have HC2 := Lib.hid hc2
      clear hc2 hx hy hq hx0 hxl hdy hsy0 h1 hmr hsx hsx0
      go_wp2_with (first
       | ((with_reducible refine at_load_ (d := 39) ?_); refine wpList_load_c rfl _ _ rfl b1 (o1 + k) rfl _ HCR.out (fun w => by kernel_rfl) ?_)
       | ((with_reducible refine at_load_ (d := 42) ?_); refine wpList_load_c rfl _ _ rfl b2 (o2 + m) rfl _ HC2.out (fun w => by kernel_rfl) ?_)
       | ((with_reducible refine at_any_ (d := 54) ?_); refine wpList_bin rfl _ _ _ _ _ rfl (v := .int .i64 ((M2 % q : Nat) : Int)) rfl (by first | rfl | go_simp) (rem_n M2 q hq0 hM2 _ _ _) ?_)
       | ((with_reducible refine at_any_ (d := 55) ?_); refine wpList_ix rfl _ _ _ rfl (v := .int .u8 ((y.getD (M2 % q) 0).toNat : Int)) rfl rfl (HIX.out (M2 % q) (Nat.mod_lt _ hq0) _) ?_)
       | ((with_reducible refine at_any_ (d := 60) ?_); refine wpList_bin rfl _ _ _ _ _ rfl (v := .int .i64 ((M2 / q : Nat) : Int)) rfl (by first | rfl | go_simp) (quo_n M2 q hq0 hM2 _ _ _) ?_)
       | (go_at_call 44; ((with_reducible refine (HSO.out _).mono ?_); rintro e w3 ⟨rfl, rfl⟩))
       | ((with_reducible refine at_store_ (i := 56) ?_); refine wpList_store_at rfl _ (.tmp 56) _ rfl g7 m _ (U (y.getD (M2 % q) 0)) rfl rfl (HO.out.row (i := 1) rfl) (HLEN.out) rfl rfl size_u8c ?_; intro v7 hw hr; replace HO := Lib.hid (HO.out.set (i := 1) rfl hw hr); clear hw hr))
      go_roundw
      case rel =>
       have h1 := HO.out
       refine ⟨m, M2 / q, by omega, by first | rfl | go_num, by first | rfl | go_num, Nat.le_trans (Nat.div_le_self _ _) hM2, Lib.hid ?_, Lib.hid ?_⟩
       · rw [HMM.out, sizeL_drop _ HY.out.2.2.1, HY.out.1, HY.out.2.1, Nat.mul_comm, Nat.div_div_eq_div_mul]
       · rw [HST.out] at h1
         exact h1
      case measure => simp [intOf] <;> omega
set_option maxHeartbeats 3200000 in
set_option maxRecDepth 20000 in
theorem r_readings (L : List (List (List UInt8))) (A : Option Addr) (n c : Nat) (hn : L.length = n) (hf : ∀ r ∈ L, ∀ s ∈ r, s.length ≤ 4611686018427387904) (w : World) (hs : Rdg w A L) :
 Calls Tryz.prog 21 #[.slice A n c] w fun e w' => ∃ A' c', e = .returned (.tuple #[.slice A' (rdsL L).length c', .int .i64 (cntE L)]) ∧ Rdg w' A' (rdsL L) ∧ Below w.heap.size w w' := by
 obtain ⟨i1, hj1, hj2, hj3, hj4⟩ := info_parts info_ss
 obtain ⟨ce, hce⟩ : ∃ ce, cntE L = ce := ⟨_, rfl⟩
 obtain ⟨cv, hcv⟩ : ∃ cv, cntV L = cv := ⟨_, rfl⟩
 have HC := Lib.hid (r_count L A n c hn hf w hs)
 rw [hce, hcv] at HC
 have hcv2 : cv ≤ 4096 := by rw [← hcv]; exact cntV_le L
 by_cases h0 : ce = 0
 ·
  subst h0
  have hcp := cnt_cmpl hce
  have hrd : rdsL L = rdL L := by unfold rdsL; rw [if_pos hce]
  have hall := rdTo_all hce
  have hn3 : n ≤ 3 := by rw [← hn]; have := comp_len hcp; omega
  have hn2 : 1 ≤ n := by rw [← hn]; have := comp_len hcp; omega
  obtain ⟨D, hD⟩ : ∃ D, dst L = D := ⟨_, rfl⟩
  have hdn : D.length = n := by rw [← hD, dst_len, hn]
  rw [hcv, hD] at hall
  rw [hrd, hce]
  have HCH := Lib.hid (fun j hj w hs => r_choice L D hcp hf hD j hj A n c hn w hs)
  have HS := Lib.hid hs
  have HALL := Lib.hid hall
  have HDN := Lib.hid hdn
  clear hcp hrd hall hs hD hdn hce hcv hf hn
  go_enter Tryz.func21, Tryz.ntmps21
  go_wp2_with (first
   | (go_at_call 26; ((with_reducible refine HC.out.mono ?_); rintro e w1 ⟨rfl, hb1⟩); have HB := Lib.hid hb1; clear hb1))
  go_loopw [7, 6] (fun i v wr => ∃ (j m : Nat) (A1 : Option Addr) (c1 : Nat), j ≤ cv ∧ m ≤ j ∧ i = .int .i64 (j : Int) ∧ v = .slice A1 m c1 ∧ Hid (∃ vs, (rdTo D j).length = m ∧ wr.ownsRow w.heap.size 25 1 (.slice A1 m c1) m vs ∧ RdO wr w.heap.size (.slice A1 m c1) vs (rdTo D j) ∧ Below w.heap.size w wr)) (fun i _ _ => cv - (intOf i).toNat)
  case atStart => exact ⟨0, 0, none, 0, by omega, by omega, rfl, rfl, Lib.hid ⟨[], rfl, World.ownsRow_nil _ _ _ 1, RdO.nil_, HB.out⟩⟩
  case round =>
   clear HB
   obtain ⟨j, m, A1, c1, hj, hmj, rfl, rfl, HH⟩ := hrel
   by_cases hlt : j < cv
   ·
    have hj0 : (j : Int) < (cv : Int) := by omega
    obtain ⟨vs, hm, ho, hrd, hb⟩ := HH.out
    have hsc := rdTo_succ D j
    obtain ⟨x, hx⟩ : ∃ x, numS D j = x := ⟨_, rfl⟩
    have hxl : x.length = n := by rw [← hx, numS_length, HDN.out]
    obtain ⟨us, hus⟩ : ∃ us, zV (parZ x) = us := ⟨_, rfl⟩
    obtain ⟨ev, hev⟩ : ∃ ev, parE x = ev := ⟨_, rfl⟩
    have HUL : Hid (us.length = zon0.length ∧ (∀ u ∈ us, u.oneCell' = true) ∧ (Tryz.prog.info? 44).map (·.size) = some us.length) := Lib.hid (by rw [← hus]; exact ⟨rfl, zV_one _, size_z⟩)
    have HCJ := Lib.hid (HCH.out j (by omega) wr (HS.out.on hb))
    have HP := Lib.hid (fun A c w hs => r_zparse x A n c hxl w hs)
    rw [hx] at HCJ hsc
    rw [hus, hev] at HP
    rw [hev] at hsc
    have HO1 := Lib.hid (show _ ∧ _ ∧ _ ∧ _ ∧ _ ∧ _ from ⟨hm, ho, hrd, hb, hsc, hxl⟩)
    clear hm ho hrd hb hsc hx hxl hus hev
    by_cases h0 : ev = 0
    ·
     subst h0
     go_wp2_with (first
      | (go_at_call 51; ((with_reducible refine HCJ.out.mono ?_); rintro e w2 ⟨g, rfl, hg, hr, hb2⟩); have HSX := Lib.hid (show Strs w2 (some ⟨g, 0, none⟩) x from hr.sees0); have HG := Lib.hid (show _ ∧ _ ∧ _ from ⟨hg, hr, hb2⟩); have HO := Lib.hid (Own.start w2); clear hg hr hb2)
      | (go_at_call 25; ((with_reducible refine (HP.out _ _ _ HSX.out).mono ?_); rintro e w3 ⟨rfl, hb3⟩); replace HO := Lib.hid (HO.out.on hb3); clear hb3)
      | ((with_reducible refine at_alloc_ (d := 9) ?_); refine wpList_alloc_v (op := ⟨some 9, _, _, _, _, _⟩) rfl 44 rfl zon0 info_z ?_; intro g9 v9a hf hr; replace HO := Lib.hid (HO.out.new hf hr); clear hf hr)
      | ((with_reducible refine at_store_ (i := 9) ?_); refine wpList_store_v rfl 44 (.tmp 9) (.tmp 30) rfl g9 zon0 us rfl rfl (HO.out.row (i := 0) rfl) HUL.out.1 HUL.out.2.1 HUL.out.2.2 ?_; intro v9s hw hr; replace HO := Lib.hid (HO.out.set (i := 0) rfl hw hr); clear hw hr)
      | ((with_reducible refine at_any_ (d := 23) ?_); refine wpList_add1 rfl _ _ _ rfl j rfl rfl (by omega) ?_)
      | ((with_reducible refine at_call_ (d := 37) ?_); have HOW := Lib.hid (own_on (own_on HO1.out.2.1 HG.out.2.2) HO.out.bl); (refine wpList_append_own_at _ rfl (.tmp 34) (.tmp 36) 27 rfl w.heap.size 25 i1 nilS 1 24 Tryz.underlying27 hj1 hj2 hj3 hj4 rfl (by decide) (.slice A1 m c1) m vs rfl (HOW.out.alloc _) ⟨_, 0, none⟩ 1 1 [_] rfl rfl (news_of_one _ _ _) (one_sl _ _ _) (by unfold maxLen; omega) (by omega) (by have h1 := HO1.out.2.2.2.1.size; have h2 := HG.out.2.2.size; have h3 := HO.out.bl.size; simp; omega) ?_; intro v3 w4 ho3 hg3 _ hk3; obtain ⟨A3, c3, rfl⟩ := own_len ho3; have HR := Lib.hid (show _ ∧ _ ∧ _ from ⟨ho3, hg3, hk3⟩); clear ho3 hg3 hk3)))
     go_roundw
     case rel =>
      obtain ⟨h1, h2, h3⟩ := HR.out
      obtain ⟨q1, q2, q3, q4, q5, q6⟩ := HO1.out
      have q7 : rdTo D (j + 1) = rdTo D j ++ [x] := by rw [q5]; simp
      have hbb : Below wr.heap.size wr v9s := below_on HG.out.2.2 HO.out.bl
      have hro := q3.on hbb
      have hlast : ∀ k, (Value.slice A1 m c1).ownBlock = some k → k < wr.heap.size := fun k e => len_own q2 e
      refine ⟨j + 1, m + 1, A3, c3, by omega, by omega, by first | rfl | go_num, rfl, Lib.hid ⟨vs ++ [Value.slice (some ⟨g, 0, none⟩) n n], by rw [q7]; simp [q1], h1, ?_, ?_⟩⟩
      · rw [q7]
        have := (hro.on ((Below.refl _ _).alloc (Nat.le_refl _) (.cells #[.slice (some ⟨g, 0, none⟩) n n] 25))).snoc (x := x) (g := g) h2 h3 (Nat.le_trans q4.size HG.out.1) (fun e => by have := hlast g e; have := HG.out.1; omega) ((HG.out.2.1.on HO.out.bl).on ((Below.refl _ _).alloc (Nat.le_refl _) _))
        rw [q6] at this
        exact this
      · have hq := (q4.trans (hbb.mono q4.size))
        exact (hq.alloc hq.size _).grown h2 (by have := hq.size; simp; omega) (fun k e => (q2.lt k e).1)
     case measure => simp [intOf]; omega
    ·
     have hev0 : (ev == 0) = false := by simpa using h0
     have HE := Lib.hid h0
     clear h0
     go_wp2_with (first
      | (go_at_call 51; ((with_reducible refine HCJ.out.mono ?_); rintro e w2 ⟨g, rfl, hg, hr, hb2⟩); have HSX := Lib.hid (show Strs w2 (some ⟨g, 0, none⟩) x from hr.sees0); have HG := Lib.hid (show _ ∧ _ ∧ _ from ⟨hg, hr, hb2⟩); have HO := Lib.hid (Own.start w2); clear hg hr hb2)
      | (go_at_call 25; ((with_reducible refine (HP.out _ _ _ HSX.out).mono ?_); rintro e w3 ⟨rfl, hb3⟩); replace HO := Lib.hid (HO.out.on hb3); clear hb3)
      | ((with_reducible refine at_alloc_ (d := 9) ?_); refine wpList_alloc_v (op := ⟨some 9, _, _, _, _, _⟩) rfl 44 rfl zon0 info_z ?_; intro g9 v9a hf hr; replace HO := Lib.hid (HO.out.new hf hr); clear hf hr)
      | ((with_reducible refine at_store_ (i := 9) ?_); refine wpList_store_v rfl 44 (.tmp 9) (.tmp 30) rfl g9 zon0 us rfl rfl (HO.out.row (i := 0) rfl) HUL.out.1 HUL.out.2.1 HUL.out.2.2 ?_; intro v9s hw hr; replace HO := Lib.hid (HO.out.set (i := 0) rfl hw hr); clear hw hr)
      | ((with_reducible refine at_any_ (d := 23) ?_); refine wpList_add1 rfl _ _ _ rfl j rfl rfl (by omega) ?_))
     go_roundw
     case rel =>
      obtain ⟨q1, q2, q3, q4, q5, q6⟩ := HO1.out
      have hbb : Below wr.heap.size wr v9s := below_on HG.out.2.2 HO.out.bl
      rw [if_neg HE.out, List.append_nil] at q5
      exact ⟨j + 1, m, A1, c1, by omega, by omega, by first | rfl | go_num, rfl, Lib.hid ⟨vs, by rw [q5]; exact q1, own_on q2 hbb, by rw [q5]; exact q3.on hbb, q4.trans (hbb.mono q4.size)⟩⟩
     case measure => simp [intOf]; omega
   · obtain rfl : j = cv := by omega
     obtain ⟨vs, hm, ho, hrd, hb⟩ := HH.out
     rw [HALL.out] at hm hrd
     have HF := Lib.hid (show _ ∧ _ from ⟨rdg_of ho hrd, hb⟩)
     have HM := Lib.hid hm
     clear HH hm ho hrd hb
     go_wp2
     go_ret2
     exact ⟨A1, c1, by rw [HM.out]; rfl, HF.out.1, HF.out.2⟩
 · have hrd : rdsL L = [] := by unfold rdsL; rw [if_neg (by rw [hce]; exact h0)]
   rw [hrd, hce]
   have hce0 : (ce = 0) = False := by simpa using h0
   have hce1 : (ce == 0) = false := by simpa using h0
   have hce2 : (ce != 0) = true := by simpa using h0
   clear h0 hce hcv hrd hs hf hn
   go_enter Tryz.func21, Tryz.ntmps21
   go_wp2_with (first
    | (go_at_call 26; ((with_reducible refine HC.out.mono ?_); rintro e w1 ⟨rfl, hb1⟩); have HB := Lib.hid hb1; clear hb1))
   go_ret2
   exact ⟨none, 0, rfl, ⟨[], .inl rfl, rfl, fun i r h => by simp at h⟩, HB.out⟩
set_option maxHeartbeats 1600000 in
theorem r_only (L : List (List (List UInt8))) (A : Option Addr) (n c : Nat) (hn : L.length = n) (hf : ∀ r ∈ L, ∀ s ∈ r, s.length ≤ 4611686018427387904) (w : World) (hs : Rdg w A L) :
 Calls Tryz.prog 23 #[.slice A n c] w fun e w' => ∃ A' c', e = .returned (.tuple #[.slice A' (onlL L).length c', .int .i64 (onlE L)]) ∧ Strs w' A' (onlL L) ∧ Below w.heap.size w w' := by
 have HR := Lib.hid (r_readings L A n c hn hf w hs)
 obtain ⟨ce, hce⟩ : ∃ ce, cntE L = ce := ⟨_, rfl⟩
 rw [hce] at HR
 clear hs hf hn
 by_cases h0 : ce = 0
 ·
  subst h0
  have hrd : rdsL L = rdL L := by unfold rdsL; rw [if_pos hce]
  rw [hrd] at HR
  rcases hX : rdL L with _ | ⟨x, _ | ⟨x2, t⟩⟩
  · have HE1 := Lib.hid (show onlE L = 16 by unfold onlE; rw [if_neg (by rw [hce]; decide), hX]; rfl)
    have HE2 := Lib.hid (show onlL L = [] by unfold onlL; rw [HE1.out]; rfl)
    rw [hX] at HR
    clear hrd hX hce
    go_enter Tryz.func23, Tryz.ntmps23
    go_wp2_with (first
     | (go_at_call 21; ((with_reducible refine HR.out.mono ?_); rintro e w1 ⟨A1, c1, rfl, hr1, hb1⟩); have HB := Lib.hid hb1; clear hb1 hr1))
    go_ret2
    exact ⟨none, 0, by rw [HE1.out, HE2.out]; rfl, by rw [HE2.out]; exact .inl rfl, HB.out⟩
  · have HE1 := Lib.hid (show onlE L = 0 by unfold onlE; rw [if_neg (by rw [hce]; decide), hX]; rfl)
    have HE2 := Lib.hid (show onlL L = x by unfold onlL; rw [HE1.out, hX]; rfl)
    rw [hX] at HR
    clear hrd hX hce
    go_enter Tryz.func23, Tryz.ntmps23
    go_wp2_with (first
     | (go_at_call 21; ((with_reducible refine HR.out.mono ?_); rintro e w1 ⟨A1, c1, rfl, hr1, hb1⟩); have HB := Lib.hid hb1; obtain ⟨b, o, A2, c2, rfl, hc2, hs2⟩ := hr1.cell (i := 0) Nat.one_pos; have HC2 := Lib.hid hc2; have HS2 := Lib.hid hs2; clear hb1 hr1 hc2 hs2)
     | ((with_reducible refine at_load_ (d := 25) ?_); refine wpList_load_c rfl _ _ rfl b o rfl _ HC2.out (fun w => by kernel_rfl) ?_))
    go_ret2
    exact ⟨A2, c2, by rw [HE1.out, HE2.out]; rfl, by rw [HE2.out]; exact HS2.out, HB.out⟩
  · have HE1 := Lib.hid (show onlE L = 25 by unfold onlE; rw [if_neg (by rw [hce]; decide), hX, if_neg (by simp), if_neg (by simp)])
    have HE2 := Lib.hid (show onlL L = [] by unfold onlL; rw [HE1.out]; rfl)
    obtain ⟨ln, hln⟩ : ∃ ln, (rdL L).length = ln := ⟨_, rfl⟩
    have hl2 : 2 ≤ ln := by rw [← hln, hX]; simp
    rw [hln] at HR
    have hl1 : (1 : Int) < (ln : Int) := by omega
    have hl0 : ((ln : Int) = 0) = False := by simp; omega
    clear hrd hX hce hln
    go_enter Tryz.func23, Tryz.ntmps23
    go_wp2_with (first
     | (go_at_call 21; ((with_reducible refine HR.out.mono ?_); rintro e w1 ⟨A1, c1, rfl, hr1, hb1⟩); have HB := Lib.hid hb1; clear hb1 hr1))
    go_ret2
    exact ⟨none, 0, by rw [HE1.out, HE2.out]; rfl, by rw [HE2.out]; exact .inl rfl, HB.out⟩
 · have HE1 := Lib.hid (show onlE L = ce by unfold onlE; rw [if_pos (by rw [hce]; exact h0), hce])
   have HE2 := Lib.hid (show onlL L = [] by unfold onlL; rw [HE1.out, if_neg h0])
   have hce0 : (ce = 0) = False := by simpa using h0
   have hce1 : (ce == 0) = false := by simpa using h0
   have hce2 : (ce != 0) = true := by simpa using h0
   obtain ⟨ln, hln⟩ : ∃ ln, (rdsL L).length = ln := ⟨_, rfl⟩
   rw [hln] at HR
   clear h0 hce hln
   go_enter Tryz.func23, Tryz.ntmps23
   go_wp2_with (first
    | (go_at_call 21; ((with_reducible refine HR.out.mono ?_); rintro e w1 ⟨A1, c1, rfl, hr1, hb1⟩); have HB := Lib.hid hb1; clear hb1 hr1))
   go_ret2
   exact ⟨none, 0, by rw [HE1.out, HE2.out]; rfl, by rw [HE2.out]; exact .inl rfl, HB.out⟩
set_option maxHeartbeats 1600000 in
theorem r_same2 (X : List (List (List UInt8))) (A B : Option Addr) (n c d : Nat) (hn : X.length = n) (hl : n ≤ 1000000) (hx : ∀ x ∈ X, x.length ≤ 1000000) (w : World) (ha : Rdg w A X) (hb : Rdg w B X) :
 Calls Tryz.prog 15 #[.slice A n c, .slice B n d] w fun e w' => e = .returned (.bool true) ∧ Below w.heap.size w w' := by
 have HA := Lib.hid ha
 have HBB := Lib.hid hb
 have HN := Lib.hid (show _ ∧ _ from ⟨hn, hx⟩)
 clear ha hb hn hx
 go_enter Tryz.func15, Tryz.ntmps15
 go_wp2
 go_loopw [5] (fun i wr => ∃ (j : Nat), j ≤ n ∧ i = .int .i64 (j : Int) ∧ Hid (Below w.heap.size w wr)) (fun i _ => n - (intOf i).toNat)
 case atStart => exact ⟨0, by omega, rfl, Lib.hid (Below.refl _ _)⟩
 case round =>
  obtain ⟨j, hj, rfl, HW⟩ := hrel
  by_cases hlt : j < n
  ·
   have hj0 : (j : Int) < (n : Int) := by omega
   have hjl : j < X.length := by rw [HN.out.1]; exact hlt
   obtain ⟨b1, o1, A1, c1, rfl, hc1, hs1⟩ := (HA.out.on HW.out).cell hjl
   obtain ⟨b2, o2, A2, c2, rfl, hc2, hs2⟩ := (HBB.out.on HW.out).cell hjl
   have hxm : (X.getD j []).length ≤ 1000000 := HN.out.2 _ (by rw [List.getD_eq_getElem?_getD, List.getElem?_eq_getElem hjl]; exact List.getElem_mem _)
   obtain ⟨x, hx⟩ : ∃ x, X.getD j [] = x := ⟨_, rfl⟩
   obtain ⟨ln, hln⟩ : ∃ ln, x.length = ln := ⟨_, rfl⟩
   rw [hx] at hc1 hc2 hs1 hs2 hxm
   rw [hln] at hc1 hc2 hxm
   have la := fun (d : Nat) (os : Array Obj) => cell_regrown hc1 d os
   have lb := fun (d : Nat) (os : Array Obj) => cell_regrown hc2 d os
   have q1 := quiet_up (w := wr) (fun w' hb => r_same_eq x A1 A2 ln c1 c2 hln hxm w' (Strs.on hs1 hb) (Strs.on hs2 hb))
   clear hx hln hc1 hc2 hs1 hs2 hxm hjl
   go_wp2_with fail
   refine wp_region_quiet_below (by kernel_rfl) (by kernel_rfl) ?_
   repeat (first | go_big_quiet_skip | (go_big_quiet_want; go_big_quiet_op; go_big_quiet_on) | quiet_step (with_reducible exact q1 _ _))
   refine wpQuiet_nil ?_
   intro w3 hw3
   have H3 := Lib.hid (below_on HW.out (below_of_regrown hw3))
   clear hw3 la lb q1
   go_wp2
   go_roundw
   case rel => exact ⟨j + 1, by omega, by go_num, H3⟩
   case measure => simp [intOf]; omega
  · obtain rfl : j = n := by omega
    go_wp2
    go_ret
    exact ⟨rfl, HW.out⟩
end Go.Proofs.YtibahbkjjfmbgaaGreatDoor
