/-
  What is proved here: a reading as memory holds it; whether lines, or the rows of a reading, are as long as given texts, as the program finds it.
-/
import Derived.Test.YtibahbkjjfmbgaaGreatDoorUX3
import Derived.Test.YtibahbkjjfmbgaaGreatDoorUY4
import Derived.Test.YtibahbkjjfmbgaaGreatDoorUA3
import Derived.Test.YtibahbkjjfmbgaaGreatDoorUQ8
import Derived.Deep.OwnRows
import Derived.Laws.OwnMore
namespace Go.Proofs.YtibahbkjjfmbgaaGreatDoor
open Go.RowKit
set_option linter.unusedVariables false
def Rdg (w : World) (A : Option Addr) (L : List (List (List UInt8))) : Prop :=
 ∃ vs : List Value, Sees w w.heap.size A vs ∧ vs.length = L.length ∧ ∀ (i : Nat) (r : List (List UInt8)), L[i]? = some r → ∃ (A' : Option Addr) (c : Nat), vs[i]? = some (Value.slice A' r.length c) ∧ Strs w A' r
theorem Rdg.on {w w' : World} {A : Option Addr} {L : List (List (List UInt8))} (h : Rdg w A L) (hb : Below w.heap.size w w') : Rdg w' A L := by
 obtain ⟨vs, h1, h2, h3⟩ := h
 refine ⟨vs, h1.on hb, h2, fun i r hr => ?_⟩
 obtain ⟨A', c, h4, h5⟩ := h3 i r hr
 exact ⟨A', c, h4, h5.on hb⟩
theorem Rdg.cell {w : World} {A : Option Addr} {L : List (List (List UInt8))} (h : Rdg w A L) {i : Nat} (hi : i < L.length) :
 ∃ b o A' c, A = some ⟨b, o, none⟩ ∧ w.cell? ⟨b, o + i, none⟩ = some (.slice A' (L.getD i []).length c) ∧ Strs w A' (L.getD i []) := by
 obtain ⟨vs, h1, h2, h3⟩ := h
 obtain ⟨b, o, e, _, hc⟩ := h1.at_ (k := i) (by omega)
 obtain ⟨A', c, h4, h5⟩ := h3 i (L.getD i []) (by simp [List.getD, hi])
 exact ⟨b, o, A', c, e, (hc i (by omega)).trans h4, h5⟩
theorem Strs.cell1 {w : World} {A : Option Addr} {r : List (List UInt8)} (h : Strs w A r) {i : Nat} (hi : i < r.length) : ∃ b o, A = some ⟨b, o, none⟩ ∧ w.cell? ⟨b, o + i, none⟩ = some (.string (S (r.getD i []))) := by
 obtain ⟨b, o, e, _, hc⟩ := h.cell (by omega)
 exact ⟨b, o, e, hc i hi⟩
def lensB (a b : List Nat) : Bool := decide (a = b)
theorem lens_ne {α β : Type} {x : List α} {y : List β} {f : α → Nat} {g : β → Nat} (h : x.length ≠ y.length) : lensB (x.map f) (y.map g) = false := by
 unfold lensB
 rw [decide_eq_false_iff_not]
 intro e
 have := congrArg List.length e
 simp at this
 exact h this
theorem lens_eq {x : List Nat} {y : List Nat} (hl : x.length = y.length) (h : ∀ i, i < x.length → x.getD i 0 = y.getD i 0) : lensB x y = true := by
 unfold lensB
 rw [decide_eq_true_iff]
 apply List.ext_getElem hl
 intro i h1 h2
 have := h i h1
 simpa [List.getD, h1, h2] using this
theorem lens_at {x y : List Nat} {i : Nat} (h : x.getD i 0 ≠ y.getD i 0) : lensB x y = false := by
 unfold lensB
 rw [decide_eq_false_iff_not]
 intro e
 rw [e] at h
 exact h rfl
theorem getD_map_len {α : Type} (x : List (List α)) (i : Nat) (hi : i < x.length) : (x.map List.length).getD i 0 = (x.getD i []).length := by simp [List.getD, hi]
theorem p_len_r (A : Option Addr) (n c : Nat) (s : ByteArray) (m : Nat) (hm : s.size = m) (b : Bool) (hb : decide (n = m) = b) (w : World) : Calls Tryz.prog 141 #[.slice A n c, .string s] w fun e w' => e = .returned (.bool b) ∧ w = w' := by
 have e2 : (s.size : Int) = (m : Int) := by omega
 by_cases h : n = m
 · have e3 : (n : Int) = (m : Int) := by omega
   have HB := Lib.hid (show b = true by rw [← hb]; simpa using h)
   clear hb
   subst h
   go_enter Tryz.func141, Tryz.ntmps141
   go_wp2
   go_ret
   exact ⟨by rw [HB.out]; simp [*], rfl⟩
 · have e3 : ¬ ((n : Int) = (m : Int)) := by omega
   have HB := Lib.hid (show b = false by rw [← hb]; simpa using h)
   clear hb h
   go_enter Tryz.func141, Tryz.ntmps141
   go_wp2
   go_ret
   exact ⟨by rw [HB.out]; simp [*], rfl⟩
set_option maxHeartbeats 1600000 in
set_option maxRecDepth 20000 in
theorem p_eq_r (L : List (List (List UInt8))) (P : List (List UInt8)) (A : Option Addr) (n c : Nat) (hn : L.length = n) (hn2 : n ≤ 10000000000000) (gp m : Nat) (hm : P.length = m) (hm2 : m ≤ 3) (b : Bool) (hb : lensB (L.map List.length) (P.map List.length) = b) (w : World) (hs : Rdg w A L) (hp : Strs w (some ⟨gp, 0, none⟩) P) :
 Calls Tryz.prog 142 #[.slice A n c, .slice (some ⟨gp, 0, none⟩) m m, .func (.func 141) #[] #[]] w fun e w' => e = .returned (.bool b) ∧ w = w' := by
 have HS := Lib.hid hs
 have HP := Lib.hid hp
 have HN := Lib.hid hn
 have HM := Lib.hid hm
 have HB := Lib.hid hb
 by_cases hnm : n = m
 ·
  subst hnm
  clear hn hm hb hs hp
  go_enter Tryz.func142, Tryz.ntmps142
  go_wp2
  go_loopw [17] (fun i wr => ∃ (j : Nat), j ≤ n ∧ i = .int .i64 (j : Int) ∧ Hid (w = wr ∧ ∀ i, i < j → (L.getD i []).length = (P.getD i []).length)) (fun i _ => n - (intOf i).toNat)
  case atStart => exact ⟨0, by omega, rfl, Lib.hid ⟨rfl, fun i hi => by omega⟩⟩
  case round =>
   obtain ⟨j, hj, rfl, HR⟩ := hrel
   obtain rfl := HR.out.1
   by_cases hlt : j < n
   ·
    have hj0 : (j : Int) < (n : Int) := by omega
    have hwj : wrap64 ((j : Int) + 1) = (j : Int) + 1 := by simp [wrap64]; omega
    obtain ⟨b1, o1, A1, c1, rfl, hc1, _⟩ := HS.out.cell (i := j) (by rw [HN.out]; exact hlt)
    obtain ⟨b2, o2, e2, hc2⟩ := HP.out.cell1 (i := j) (by rw [HM.out]; exact hlt)
    obtain ⟨l1, hl1⟩ : ∃ l1, (L.getD j []).length = l1 := ⟨_, rfl⟩
    obtain ⟨y, hy⟩ : ∃ y, P.getD j [] = y := ⟨_, rfl⟩
    obtain ⟨l2, hl2⟩ : ∃ l2, y.length = l2 := ⟨_, rfl⟩
    rw [hl1] at hc1
    rw [hy] at hc2
    injection e2 with e2
    injection e2 with e2 e3
    subst e2 e3
    rw [Nat.zero_add] at hc2
    have HC1 := Lib.hid hc1
    have HC2 := Lib.hid hc2
    have HQ := Lib.hid (show _ ∧ _ ∧ _ from ⟨hl1, hy, hl2⟩)
    have hsz : (S y).size = l2 := by rw [S_size, hl2]
    clear hc1 hc2 hl1 hy hl2
    obtain ⟨q, hq⟩ : ∃ q, decide (l1 = l2) = q := ⟨_, rfl⟩
    have HL := Lib.hid (p_len_r A1 l1 c1 (S y) l2 hsz q hq w)
    have HQQ := Lib.hid hq
    clear hq hsz
    rcases q with _ | _
    · go_wp2_with (first
       | ((with_reducible refine at_load_ (d := 21) ?_); refine wpList_load_c rfl _ _ rfl b1 (o1 + j) rfl _ HC1.out (fun w => by kernel_rfl) ?_)
       | ((with_reducible refine at_load_ (d := 25) ?_); refine wpList_load_c rfl _ _ rfl gp j rfl _ HC2.out (fun w => by kernel_rfl) ?_)
       | (go_at_call 141; ((with_reducible refine HL.out.mono ?_); rintro e w9 ⟨rfl, rfl⟩)))
      go_ret
      refine ⟨?_, rfl⟩
      have hne : l1 ≠ l2 := by simpa using HQQ.out
      rw [← HB.out, lens_at (i := j) (by rw [getD_map_len _ _ (by rw [HN.out]; exact hlt), getD_map_len _ _ (by rw [HM.out]; exact hlt), HQ.out.1, HQ.out.2.1, HQ.out.2.2]; exact hne)]
      rfl
    · go_wp2_with (first
       | ((with_reducible refine at_load_ (d := 21) ?_); refine wpList_load_c rfl _ _ rfl b1 (o1 + j) rfl _ HC1.out (fun w => by kernel_rfl) ?_)
       | ((with_reducible refine at_load_ (d := 25) ?_); refine wpList_load_c rfl _ _ rfl gp j rfl _ HC2.out (fun w => by kernel_rfl) ?_)
       | (go_at_call 141; ((with_reducible refine HL.out.mono ?_); rintro e w9 ⟨rfl, rfl⟩)))
      go_roundw
      case rel => exact ⟨j + 1, by omega, by go_num, Lib.hid ⟨by first | rfl | trivial, fun i hi => by
       by_cases e : i = j
       · rw [e, HQ.out.1, HQ.out.2.1, HQ.out.2.2]; simpa using HQQ.out
       · exact HR.out.2 i (by omega)⟩⟩
      case measure => simp [intOf]; omega
   · obtain rfl : j = n := by omega
     go_wp2
     go_ret
     refine ⟨?_, rfl⟩
     rw [← HB.out, lens_eq (by simp; rw [HN.out, HM.out]) (fun i hi => ?_)]
     · rfl
     · rw [List.length_map] at hi
       rw [getD_map_len _ _ hi, getD_map_len _ _ (by rw [HM.out, ← HN.out]; exact hi)]
       exact HR.out.2 i (by rw [← HN.out]; exact hi)
 · have e1 : ¬ ((n : Int) = (m : Int)) := by omega
   clear hn hm hb hs hp hnm
   go_enter Tryz.func142, Tryz.ntmps142
   go_wp2
   go_ret
   refine ⟨?_, rfl⟩
   rw [← HB.out, lens_ne (by rw [HN.out, HM.out]; omega)]
   rfl
theorem p_len_s (s0 : ByteArray) (n : Nat) (hs0 : s0.size = n) (s : ByteArray) (m : Nat) (hm : s.size = m) (b : Bool) (hb : decide (n = m) = b) (w : World) : Calls Tryz.prog 68 #[.string s0, .string s] w fun e w' => e = .returned (.bool b) ∧ w = w' := by
 have e1 : (s0.size : Int) = (n : Int) := by omega
 have e2 : (s.size : Int) = (m : Int) := by omega
 by_cases h : n = m
 · have e3 : (n : Int) = (m : Int) := by omega
   have HB := Lib.hid (show b = true by rw [← hb]; simpa using h)
   clear hb
   subst h
   go_enter Tryz.func68, Tryz.ntmps68
   go_wp2
   go_ret
   exact ⟨by rw [HB.out]; simp [*], rfl⟩
 · have e3 : ¬ ((n : Int) = (m : Int)) := by omega
   have HB := Lib.hid (show b = false by rw [← hb]; simpa using h)
   clear hb h
   go_enter Tryz.func68, Tryz.ntmps68
   go_wp2
   go_ret
   exact ⟨by rw [HB.out]; simp [*], rfl⟩
set_option maxHeartbeats 1600000 in
set_option maxRecDepth 20000 in
theorem p_eq_s (L : List (List UInt8)) (P : List (List UInt8)) (A : Option Addr) (n c : Nat) (hn : L.length = n) (hn2 : n ≤ 10000000000000) (gp m : Nat) (hm : P.length = m) (hm2 : m ≤ 3) (b : Bool) (hb : lensB (L.map List.length) (P.map List.length) = b) (w : World) (hs : Strs w A L) (hp : Strs w (some ⟨gp, 0, none⟩) P) :
 Calls Tryz.prog 70 #[.slice A n c, .slice (some ⟨gp, 0, none⟩) m m, .func (.func 68) #[] #[]] w fun e w' => e = .returned (.bool b) ∧ w = w' := by
 have HS := Lib.hid hs
 have HP := Lib.hid hp
 have HN := Lib.hid hn
 have HM := Lib.hid hm
 have HB := Lib.hid hb
 by_cases hnm : n = m
 ·
  subst hnm
  clear hn hm hb hs hp
  go_enter Tryz.func70, Tryz.ntmps70
  go_wp2
  go_loopw [17] (fun i wr => ∃ (j : Nat), j ≤ n ∧ i = .int .i64 (j : Int) ∧ Hid (w = wr ∧ ∀ i, i < j → (L.getD i []).length = (P.getD i []).length)) (fun i _ => n - (intOf i).toNat)
  case atStart => exact ⟨0, by omega, rfl, Lib.hid ⟨rfl, fun i hi => by omega⟩⟩
  case round =>
   obtain ⟨j, hj, rfl, HR⟩ := hrel
   obtain rfl := HR.out.1
   by_cases hlt : j < n
   ·
    have hj0 : (j : Int) < (n : Int) := by omega
    have hwj : wrap64 ((j : Int) + 1) = (j : Int) + 1 := by simp [wrap64]; omega
    obtain ⟨b1, o1, rfl, hc1⟩ := HS.out.cell1 (i := j) (by rw [HN.out]; exact hlt)
    obtain ⟨b2, o2, e2, hc2⟩ := HP.out.cell1 (i := j) (by rw [HM.out]; exact hlt)
    obtain ⟨x, hx⟩ : ∃ x, L.getD j [] = x := ⟨_, rfl⟩
    obtain ⟨l1, hl1⟩ : ∃ l1, x.length = l1 := ⟨_, rfl⟩
    obtain ⟨y, hy⟩ : ∃ y, P.getD j [] = y := ⟨_, rfl⟩
    obtain ⟨l2, hl2⟩ : ∃ l2, y.length = l2 := ⟨_, rfl⟩
    rw [hx] at hc1
    rw [hy] at hc2
    injection e2 with e2
    injection e2 with e2 e3
    subst e2 e3
    rw [Nat.zero_add] at hc2
    have HC1 := Lib.hid hc1
    have HC2 := Lib.hid hc2
    have HQ := Lib.hid (show (L.getD j []).length = l1 ∧ P.getD j [] = y ∧ y.length = l2 from ⟨by rw [hx, hl1], hy, hl2⟩)
    have hsz : (S y).size = l2 := by rw [S_size, hl2]
    have hsz1 : (S x).size = l1 := by rw [S_size, hl1]
    clear hc1 hc2 hl1 hy hl2 hx
    obtain ⟨q, hq⟩ : ∃ q, decide (l1 = l2) = q := ⟨_, rfl⟩
    have HL := Lib.hid (p_len_s (S x) l1 hsz1 (S y) l2 hsz q hq w)
    have HQQ := Lib.hid hq
    clear hq hsz hsz1
    rcases q with _ | _
    · go_wp2_with (first
       | ((with_reducible refine at_load_ (d := 21) ?_); refine wpList_load_c rfl _ _ rfl b1 (o1 + j) rfl _ HC1.out (fun w => by kernel_rfl) ?_)
       | ((with_reducible refine at_load_ (d := 25) ?_); refine wpList_load_c rfl _ _ rfl gp j rfl _ HC2.out (fun w => by kernel_rfl) ?_)
       | (go_at_call 68; ((with_reducible refine HL.out.mono ?_); rintro e w9 ⟨rfl, rfl⟩)))
      go_ret
      refine ⟨?_, rfl⟩
      have hne : l1 ≠ l2 := by simpa using HQQ.out
      rw [← HB.out, lens_at (i := j) (by rw [getD_map_len _ _ (by rw [HN.out]; exact hlt), getD_map_len _ _ (by rw [HM.out]; exact hlt), HQ.out.1, HQ.out.2.1, HQ.out.2.2]; exact hne)]
      rfl
    · go_wp2_with (first
       | ((with_reducible refine at_load_ (d := 21) ?_); refine wpList_load_c rfl _ _ rfl b1 (o1 + j) rfl _ HC1.out (fun w => by kernel_rfl) ?_)
       | ((with_reducible refine at_load_ (d := 25) ?_); refine wpList_load_c rfl _ _ rfl gp j rfl _ HC2.out (fun w => by kernel_rfl) ?_)
       | (go_at_call 68; ((with_reducible refine HL.out.mono ?_); rintro e w9 ⟨rfl, rfl⟩)))
      go_roundw
      case rel => exact ⟨j + 1, by omega, by go_num, Lib.hid ⟨by first | rfl | trivial, fun i hi => by
       by_cases e : i = j
       · rw [e, HQ.out.1, HQ.out.2.1, HQ.out.2.2]; simpa using HQQ.out
       · exact HR.out.2 i (by omega)⟩⟩
      case measure => simp [intOf]; omega
   · obtain rfl : j = n := by omega
     go_wp2
     go_ret
     refine ⟨?_, rfl⟩
     rw [← HB.out, lens_eq (by simp; rw [HN.out, HM.out]) (fun i hi => ?_)]
     · rfl
     · rw [List.length_map] at hi
       rw [getD_map_len _ _ hi, getD_map_len _ _ (by rw [HM.out, ← HN.out]; exact hi)]
       exact HR.out.2 i (by rw [← HN.out]; exact hi)
 · have e1 : ¬ ((n : Int) = (m : Int)) := by omega
   clear hn hm hb hs hp hnm
   go_enter Tryz.func70, Tryz.ntmps70
   go_wp2
   go_ret
   refine ⟨?_, rfl⟩
   rw [← HB.out, lens_ne (by rw [HN.out, HM.out]; omega)]
   rfl
def rA (n : Nat) : List UInt8 := List.replicate n 65
def rX (n : Nat) : List UInt8 := List.replicate n 88
def bearL : List UInt8 := [88, 88, 88, 88, 88, 88, 88, 88, 88, 57, 65, 65, 65, 57, 57, 57, 57, 57, 57, 57, 65, 57, 57, 57, 57, 57, 57, 57]
def fmPl : Nat → List (List UInt8)
 | 0 => [[65, 65, 65, 65, 65] ++ rA 39, bearL ++ rX 14 ++ [57] ++ [57]]
 | 1 => [[65, 65, 65, 65, 65] ++ rA 31, bearL ++ rX 7 ++ [57]]
 | _ => [[65, 65, 65, 65, 65, 88, 88, 88, 88, 88, 88, 88, 88, 88, 57] ++ rX 15, [57, 57, 57, 57, 57, 57, 57, 65, 57, 57, 57, 57, 57, 57, 57, 65, 65, 65] ++ rX 11 ++ [57], rA 30]
theorem rep1 (b : UInt8) (n : Nat) : Lib.repeatL (ByteArray.mk #[b]).data.toList n = List.replicate n b := by
 induction n with
 | zero => rfl
 | succ n ih =>
  have : Lib.repeatL (ByteArray.mk #[b]).data.toList (n + 1) = [b] ++ Lib.repeatL (ByteArray.mk #[b]).data.toList n := by first | rfl | simp [Lib.repeatL, List.replicate_succ]
  rw [this, ih]; rfl
theorem p_rep1 (b : UInt8) (n : Nat) (hn : n ≤ 1000) (w : World) : Calls Tryz.prog 116 #[.string ⟨#[b]⟩, .int .i64 n] w fun e w' => e = .returned (.string (S (List.replicate n b))) ∧ Below w.heap.size w w' := by
 have h := sh_strings_Repeat ⟨#[b]⟩ n w (by omega) (by show 1 * n ≤ _; omega)
 rw [rep1] at h
 exact h
theorem p_fA (n : Nat) (hn : n ≤ 1000) (w : World) : Calls Tryz.prog 115 #[.int .i64 n] w fun e w' => e = .returned (.string (S (rA n))) ∧ Below w.heap.size w w' := by
 have H := Lib.hid (p_rep1 65 n hn w)
 clear hn
 go_enter Tryz.func115, Tryz.ntmps115
 go_wp2_with (go_at_call 116; refine H.out.mono ?_; rintro e w1 ⟨rfl, hb⟩)
 go_ret
 exact ⟨rfl, hb⟩
theorem p_fX (n : Nat) (hn : n ≤ 1000) (w : World) : Calls Tryz.prog 117 #[.int .i64 n] w fun e w' => e = .returned (.string (S (rX n))) ∧ Below w.heap.size w w' := by
 have H := Lib.hid (p_rep1 88 n hn w)
 clear hn
 go_enter Tryz.func117, Tryz.ntmps117
 go_wp2_with (go_at_call 116; refine H.out.mono ?_; rintro e w1 ⟨rfl, hb⟩)
 go_ret
 exact ⟨rfl, hb⟩
def fm0 : List Value := [.slice none 0 0, .slice none 0 0, .slice none 0 0]
theorem info_fm : (Tryz.prog.info? 98).map (·.zero) = some (some (.agg fm0.toArray)) := by kernel_rfl
theorem size_fm : (Tryz.prog.info? 98).map (·.size) = some 3 := by kernel_rfl
theorem Own.newAt {w cur : World} {L : List (Nat × List Value)} (h : Own w cur L) (c : Array Value) (t : TypeId) : Own w (cur.alloc (.cells c t)) (L ++ [(cur.heap.size, c.toList)]) := h.new ⟨rfl, _, rfl⟩ (RowV.new rfl)
theorem Own.newOn {w cur cur' : World} {L : List (Nat × List Value)} {c : Array Value} {t : TypeId} (h : Own w cur L) (hb : Below (cur.alloc (.cells c t)).heap.size (cur.alloc (.cells c t)) cur') : Own w cur' (L ++ [(cur.heap.size, c.toList)]) := (h.newAt c t).on hb
set_option maxHeartbeats 3200000 in
set_option maxRecDepth 20000 in
theorem p_formats (w : World) : Calls Tryz.prog 69 #[] w fun e w' => ∃ g0 g1 g2, e = .returned (.agg #[.slice (some ⟨g0, 0, none⟩) 2 2, .slice (some ⟨g1, 0, none⟩) 2 2, .slice (some ⟨g2, 0, none⟩) 3 3]) ∧ Strs w' (some ⟨g0, 0, none⟩) (fmPl 0) ∧ Strs w' (some ⟨g1, 0, none⟩) (fmPl 1) ∧ Strs w' (some ⟨g2, 0, none⟩) (fmPl 2) ∧ Below w.heap.size w w' := by
 obtain ⟨qa39, hqa39⟩ : ∃ r, S (rA 39) = r := ⟨_, rfl⟩
 have zqa39 : qa39.size = 39 := by rw [← hqa39, S_size]; rfl
 have Hqa39 := Lib.hid (show ∀ w, Calls Tryz.prog 115 #[.int .i64 39] w (fun e w' => e = .returned (.string qa39) ∧ Below w.heap.size w w') from fun w => by rw [← hqa39]; exact p_fA 39 (by decide) w)
 have Kqa39 := Lib.hid hqa39
 clear hqa39
 obtain ⟨qx14, hqx14⟩ : ∃ r, S (rX 14) = r := ⟨_, rfl⟩
 have zqx14 : qx14.size = 14 := by rw [← hqx14, S_size]; rfl
 have Hqx14 := Lib.hid (show ∀ w, Calls Tryz.prog 117 #[.int .i64 14] w (fun e w' => e = .returned (.string qx14) ∧ Below w.heap.size w w') from fun w => by rw [← hqx14]; exact p_fX 14 (by decide) w)
 have Kqx14 := Lib.hid hqx14
 clear hqx14
 obtain ⟨qa31, hqa31⟩ : ∃ r, S (rA 31) = r := ⟨_, rfl⟩
 have zqa31 : qa31.size = 31 := by rw [← hqa31, S_size]; rfl
 have Hqa31 := Lib.hid (show ∀ w, Calls Tryz.prog 115 #[.int .i64 31] w (fun e w' => e = .returned (.string qa31) ∧ Below w.heap.size w w') from fun w => by rw [← hqa31]; exact p_fA 31 (by decide) w)
 have Kqa31 := Lib.hid hqa31
 clear hqa31
 obtain ⟨qx7, hqx7⟩ : ∃ r, S (rX 7) = r := ⟨_, rfl⟩
 have zqx7 : qx7.size = 7 := by rw [← hqx7, S_size]; rfl
 have Hqx7 := Lib.hid (show ∀ w, Calls Tryz.prog 117 #[.int .i64 7] w (fun e w' => e = .returned (.string qx7) ∧ Below w.heap.size w w') from fun w => by rw [← hqx7]; exact p_fX 7 (by decide) w)
 have Kqx7 := Lib.hid hqx7
 clear hqx7
 obtain ⟨qx15, hqx15⟩ : ∃ r, S (rX 15) = r := ⟨_, rfl⟩
 have zqx15 : qx15.size = 15 := by rw [← hqx15, S_size]; rfl
 have Hqx15 := Lib.hid (show ∀ w, Calls Tryz.prog 117 #[.int .i64 15] w (fun e w' => e = .returned (.string qx15) ∧ Below w.heap.size w w') from fun w => by rw [← hqx15]; exact p_fX 15 (by decide) w)
 have Kqx15 := Lib.hid hqx15
 clear hqx15
 obtain ⟨qx11, hqx11⟩ : ∃ r, S (rX 11) = r := ⟨_, rfl⟩
 have zqx11 : qx11.size = 11 := by rw [← hqx11, S_size]; rfl
 have Hqx11 := Lib.hid (show ∀ w, Calls Tryz.prog 117 #[.int .i64 11] w (fun e w' => e = .returned (.string qx11) ∧ Below w.heap.size w w') from fun w => by rw [← hqx11]; exact p_fX 11 (by decide) w)
 have Kqx11 := Lib.hid hqx11
 clear hqx11
 obtain ⟨qa30, hqa30⟩ : ∃ r, S (rA 30) = r := ⟨_, rfl⟩
 have zqa30 : qa30.size = 30 := by rw [← hqa30, S_size]; rfl
 have Hqa30 := Lib.hid (show ∀ w, Calls Tryz.prog 115 #[.int .i64 30] w (fun e w' => e = .returned (.string qa30) ∧ Below w.heap.size w w') from fun w => by rw [← hqa30]; exact p_fA 30 (by decide) w)
 have Kqa30 := Lib.hid hqa30
 clear hqa30
 have HO := Lib.hid (Own.start w)
 go_enter Tryz.func69, Tryz.ntmps69
 go_wp2_with (first
  | ((with_reducible refine at_alloc_ (d := 0) ?_); refine wpList_alloc_v (op := ⟨some 0, _, _, _, _, _⟩) rfl 98 rfl fm0 info_fm ?_; intro g9 v9a hf hr; replace HO := Lib.hid (HO.out.new hf hr); clear hf hr)
  | (go_at_call 115; ((with_reducible refine (Hqa39.out _).mono ?_); rintro e w1 ⟨rfl, hb⟩); replace HO := Lib.hid (HO.out.on hb); clear hb)
  | (go_at_call 117; ((with_reducible refine (Hqx14.out _).mono ?_); rintro e w2 ⟨rfl, hb⟩); replace HO := Lib.hid (HO.out.on hb); clear hb)
  | (go_at_call 115; ((with_reducible refine (Hqa31.out _).mono ?_); rintro e w3 ⟨rfl, hb⟩); replace HO := Lib.hid (HO.out.newOn hb); clear hb)
  | (go_at_call 117; ((with_reducible refine (Hqx7.out _).mono ?_); rintro e w4 ⟨rfl, hb⟩); replace HO := Lib.hid (HO.out.on hb); clear hb)
  | (go_at_call 117; ((with_reducible refine (Hqx15.out _).mono ?_); rintro e w5 ⟨rfl, hb⟩); replace HO := Lib.hid (HO.out.newOn hb); clear hb)
  | (go_at_call 117; ((with_reducible refine (Hqx11.out _).mono ?_); rintro e w6 ⟨rfl, hb⟩); replace HO := Lib.hid (HO.out.on hb); clear hb)
  | (go_at_call 115; ((with_reducible refine (Hqa30.out _).mono ?_); rintro e w7 ⟨rfl, hb⟩); replace HO := Lib.hid (HO.out.on hb); clear hb)
  | ((with_reducible refine at_store_ (i := 0) ?_); refine wpList_store_v rfl 98 (.tmp 0) (.tmp 30) rfl g9 fm0 [.slice (some ⟨w2.heap.size, 0, none⟩) 2 2, .slice (some ⟨w4.heap.size, 0, none⟩) 2 2, .slice (some ⟨w7.heap.size, 0, none⟩) 3 3] rfl rfl ((HO.out.newAt _ _).row (i := 0) rfl) rfl (by intro u hu; simp at hu; rcases hu with rfl | rfl | rfl <;> rfl) size_fm ?_; intro v0s hw hr; replace HO := Lib.hid ((HO.out.newAt _ _).set (i := 0) rfl hw hr); clear hw hr))
 have e0 : [Value.string (⟨#[65, 65, 65, 65, 65]⟩ ++ qa39), Value.string (⟨#[88, 88, 88, 88, 88, 88, 88, 88, 88, 57, 65, 65, 65, 57, 57, 57, 57, 57, 57, 57, 65, 57, 57, 57, 57, 57, 57, 57]⟩ ++ qx14 ++ ⟨#[57]⟩ ++ ⟨#[57]⟩)] = strV (fmPl 0) := by
  rw [← Kqa39.out, ← Kqx14.out]
  simp only [strV, fmPl, List.map_cons, List.map_nil, ← S_append]; rfl
 have e1 : [Value.string (⟨#[65, 65, 65, 65, 65]⟩ ++ qa31), Value.string (⟨#[88, 88, 88, 88, 88, 88, 88, 88, 88, 57, 65, 65, 65, 57, 57, 57, 57, 57, 57, 57, 65, 57, 57, 57, 57, 57, 57, 57]⟩ ++ qx7 ++ ⟨#[57]⟩)] = strV (fmPl 1) := by
  rw [← Kqa31.out, ← Kqx7.out]
  simp only [strV, fmPl, List.map_cons, List.map_nil, ← S_append]; rfl
 have e2 : [Value.string (⟨#[65, 65, 65, 65, 65, 88, 88, 88, 88, 88, 88, 88, 88, 88, 57]⟩ ++ qx15), Value.string (⟨#[57, 57, 57, 57, 57, 57, 57, 65, 57, 57, 57, 57, 57, 57, 57, 65, 65, 65]⟩ ++ qx11 ++ ⟨#[57]⟩), Value.string qa30] = strV (fmPl 2) := by
  rw [← Kqx15.out, ← Kqx11.out, ← Kqa30.out]
  simp only [strV, fmPl, List.map_cons, List.map_nil, ← S_append]; rfl
 have r0 := HO.out.row (i := 1) rfl
 have r1 := HO.out.row (i := 2) rfl
 have r2 := HO.out.row (i := 3) rfl
 rw [e0] at r0
 rw [e1] at r1
 rw [e2] at r2
 exact bodyPost_ret (results_v rfl _ _ g9 [.slice (some ⟨w2.heap.size, 0, none⟩) 2 2, .slice (some ⟨w4.heap.size, 0, none⟩) 2 2, .slice (some ⟨w7.heap.size, 0, none⟩) 3 3] _ rfl (HO.out.row (i := 0) rfl) Tryz.underlying98 rfl size_fm) rfl ⟨_, _, _, rfl, r0.sees0, r1.sees0, r2.sees0, HO.out.bl⟩
theorem ixr_fm0 (g0 g1 g2 : Nat) (w : World) : (Instr.index 98 (.agg #[.slice (some ⟨g0, 0, none⟩) 2 2, .slice (some ⟨g1, 0, none⟩) 2 2, .slice (some ⟨g2, 0, none⟩) 3 3]) (.int .i64 0)).run Tryz.prog w = .ok (.slice (some ⟨g0, 0, none⟩) 2 2) w := by
 have hu := Tryz.underlying98
 have hz := Tryz.sizeOf25
 simp [Instr.index, asIntOf, run_underlying hu, hz, go_sem, part]
theorem ixr_fm1 (g0 g1 g2 : Nat) (w : World) : (Instr.index 98 (.agg #[.slice (some ⟨g0, 0, none⟩) 2 2, .slice (some ⟨g1, 0, none⟩) 2 2, .slice (some ⟨g2, 0, none⟩) 3 3]) (.int .i64 1)).run Tryz.prog w = .ok (.slice (some ⟨g1, 0, none⟩) 2 2) w := by
 have hu := Tryz.underlying98
 have hz := Tryz.sizeOf25
 simp [Instr.index, asIntOf, run_underlying hu, hz, go_sem, part]
theorem ixr_fm2 (g0 g1 g2 : Nat) (w : World) : (Instr.index 98 (.agg #[.slice (some ⟨g0, 0, none⟩) 2 2, .slice (some ⟨g1, 0, none⟩) 2 2, .slice (some ⟨g2, 0, none⟩) 3 3]) (.int .i64 2)).run Tryz.prog w = .ok (.slice (some ⟨g2, 0, none⟩) 3 3) w := by
 have hu := Tryz.underlying98
 have hz := Tryz.sizeOf25
 simp [Instr.index, asIntOf, run_underlying hu, hz, go_sem, part]
def fmt3 (ls : List Nat) : Nat := if lensB ls ((fmPl 0).map List.length) = true then 0 else if lensB ls ((fmPl 1).map List.length) = true then 1 else if lensB ls ((fmPl 2).map List.length) = true then 2 else 3
theorem fmt_is {ls : List Nat} {k : Nat} (hk : k < 3) (h : ∀ i, i < k → lensB ls ((fmPl i).map List.length) = false) (h1 : lensB ls ((fmPl k).map List.length) = true) : fmt3 ls = k := by
 unfold fmt3
 obtain rfl | rfl | rfl : k = 0 ∨ k = 1 ∨ k = 2 := by omega
 · rw [if_pos h1]
 · rw [if_neg (by rw [h 0 (by decide)]; decide), if_pos h1]
 · rw [if_neg (by rw [h 0 (by decide)]; decide), if_neg (by rw [h 1 (by decide)]; decide), if_pos h1]
theorem fmt_no {ls : List Nat} (h : ∀ i, i < 3 → lensB ls ((fmPl i).map List.length) = false) : fmt3 ls = 3 := by
 unfold fmt3
 rw [if_neg (by rw [h 0 (by decide)]; decide), if_neg (by rw [h 1 (by decide)]; decide), if_neg (by rw [h 2 (by decide)]; decide)]
def PlP (k : Nat) (w : World) (e : Ending) (w' : World) : Prop := (k < 3 → ∃ A, e = .returned (.tuple #[.slice A (fmPl k).length (fmPl k).length, .bool true]) ∧ Strs w' A (fmPl k)) ∧ (¬ k < 3 → e = .returned (.tuple #[.slice none 0 0, .bool false])) ∧ Below w.heap.size w w'
set_option maxHeartbeats 1600000 in
set_option maxRecDepth 20000 in
theorem p_places_r (L : List (List (List UInt8))) (A : Option Addr) (n c : Nat) (hn : L.length = n) (hn2 : n ≤ 10000000000000) (w : World) (hs : Rdg w A L) : Calls Tryz.prog 110 #[.slice A n c] w (PlP (fmt3 (L.map List.length)) w) := by
 have HS := Lib.hid hs
 have HN := Lib.hid (show _ ∧ _ from ⟨hn, hn2⟩)
 have HO := Lib.hid (Below.refl w.heap.size w)
 clear hs hn hn2
 go_enter Tryz.func110, Tryz.ntmps110
 go_wp2_with (go_at_call 69; ((with_reducible refine (p_formats _).mono ?_); rintro e w1 ⟨g0, g1, g2, rfl, h0, h1, h2, hb⟩); have HQ := Lib.hid (show _ ∧ _ ∧ _ from ⟨h0, h1, h2⟩); replace HO := Lib.hid (HO.out.trans hb); have HS1 := Lib.hid (HS.out.on hb); clear h0 h1 h2 hb)
 go_loopw [8] (fun i wr => ∃ (j : Nat), j ≤ 3 ∧ i = .int .i64 (j : Int) ∧ Hid (w1 = wr ∧ ∀ i, i < j → lensB (L.map List.length) ((fmPl i).map List.length) = false)) (fun i _ => 3 - (intOf i).toNat)
 case atStart => exact ⟨0, by omega, rfl, Lib.hid ⟨rfl, fun i hi => by omega⟩⟩
 case round =>
  obtain ⟨j, hj, rfl, HR⟩ := hrel
  obtain rfl := HR.out.1
  obtain rfl | rfl | rfl | rfl : j = 0 ∨ j = 1 ∨ j = 2 ∨ j = 3 := by omega
  ·
   have hix := ixr_fm0 g0 g1 g2 w1
   obtain ⟨q, hq⟩ : ∃ q, lensB (L.map List.length) ((fmPl 0).map List.length) = q := ⟨_, rfl⟩
   have HE := Lib.hid (p_eq_r L (fmPl 0) A n c HN.out.1 HN.out.2 g0 2 rfl (by decide) q hq w1 HS1.out HQ.out.1)
   have HQQ := Lib.hid hq
   clear hq
   rcases q with _ | _
   · go_wp2_with (go_at_call 142; ((with_reducible refine HE.out.mono ?_); rintro e w9 ⟨rfl, rfl⟩))
     go_roundw
     case rel => exact ⟨1, by omega, rfl, Lib.hid ⟨by first | rfl | trivial, fun i hi => by
      by_cases e : i = 0
      · rw [e]; exact HQQ.out
      · exact HR.out.2 i (by omega)⟩⟩
     case measure => simp [intOf]
   · go_wp2_with (go_at_call 142; ((with_reducible refine HE.out.mono ?_); rintro e w9 ⟨rfl, rfl⟩))
     go_ret2
     rw [fmt_is (k := 0) (by decide) HR.out.2 HQQ.out]
     exact ⟨fun _ => ⟨_, rfl, HQ.out.1⟩, fun h => absurd (by decide) h, HO.out⟩
  ·
   have hix := ixr_fm1 g0 g1 g2 w1
   obtain ⟨q, hq⟩ : ∃ q, lensB (L.map List.length) ((fmPl 1).map List.length) = q := ⟨_, rfl⟩
   have HE := Lib.hid (p_eq_r L (fmPl 1) A n c HN.out.1 HN.out.2 g1 2 rfl (by decide) q hq w1 HS1.out HQ.out.2.1)
   have HQQ := Lib.hid hq
   clear hq
   rcases q with _ | _
   · go_wp2_with (go_at_call 142; ((with_reducible refine HE.out.mono ?_); rintro e w9 ⟨rfl, rfl⟩))
     go_roundw
     case rel => exact ⟨2, by omega, rfl, Lib.hid ⟨by first | rfl | trivial, fun i hi => by
      by_cases e : i = 1
      · rw [e]; exact HQQ.out
      · exact HR.out.2 i (by omega)⟩⟩
     case measure => simp [intOf]
   · go_wp2_with (go_at_call 142; ((with_reducible refine HE.out.mono ?_); rintro e w9 ⟨rfl, rfl⟩))
     go_ret2
     rw [fmt_is (k := 1) (by decide) HR.out.2 HQQ.out]
     exact ⟨fun _ => ⟨_, rfl, HQ.out.2.1⟩, fun h => absurd (by decide) h, HO.out⟩
  ·
   have hix := ixr_fm2 g0 g1 g2 w1
   obtain ⟨q, hq⟩ : ∃ q, lensB (L.map List.length) ((fmPl 2).map List.length) = q := ⟨_, rfl⟩
   have HE := Lib.hid (p_eq_r L (fmPl 2) A n c HN.out.1 HN.out.2 g2 3 rfl (by decide) q hq w1 HS1.out HQ.out.2.2)
   have HQQ := Lib.hid hq
   clear hq
   rcases q with _ | _
   · go_wp2_with (go_at_call 142; ((with_reducible refine HE.out.mono ?_); rintro e w9 ⟨rfl, rfl⟩))
     go_roundw
     case rel => exact ⟨3, by omega, rfl, Lib.hid ⟨by first | rfl | trivial, fun i hi => by
      by_cases e : i = 2
      · rw [e]; exact HQQ.out
      · exact HR.out.2 i (by omega)⟩⟩
     case measure => simp [intOf]
   · go_wp2_with (go_at_call 142; ((with_reducible refine HE.out.mono ?_); rintro e w9 ⟨rfl, rfl⟩))
     go_ret2
     rw [fmt_is (k := 2) (by decide) HR.out.2 HQQ.out]
     exact ⟨fun _ => ⟨_, rfl, HQ.out.2.2⟩, fun h => absurd (by decide) h, HO.out⟩
  · go_wp2
    go_ret2
    rw [fmt_no HR.out.2]
    exact ⟨fun h => absurd h (by decide), fun _ => rfl, HO.out⟩
set_option maxHeartbeats 1600000 in
set_option maxRecDepth 20000 in
theorem p_places_s (L : List (List UInt8)) (A : Option Addr) (n c : Nat) (hn : L.length = n) (hn2 : n ≤ 10000000000000) (w : World) (hs : Strs w A L) : Calls Tryz.prog 35 #[.slice A n c] w (PlP (fmt3 (L.map List.length)) w) := by
 have HS := Lib.hid hs
 have HN := Lib.hid (show _ ∧ _ from ⟨hn, hn2⟩)
 have HO := Lib.hid (Below.refl w.heap.size w)
 clear hs hn hn2
 go_enter Tryz.func35, Tryz.ntmps35
 go_wp2_with (go_at_call 69; ((with_reducible refine (p_formats _).mono ?_); rintro e w1 ⟨g0, g1, g2, rfl, h0, h1, h2, hb⟩); have HQ := Lib.hid (show _ ∧ _ ∧ _ from ⟨h0, h1, h2⟩); replace HO := Lib.hid (HO.out.trans hb); have HS1 := Lib.hid (HS.out.on hb); clear h0 h1 h2 hb)
 go_loopw [8] (fun i wr => ∃ (j : Nat), j ≤ 3 ∧ i = .int .i64 (j : Int) ∧ Hid (w1 = wr ∧ ∀ i, i < j → lensB (L.map List.length) ((fmPl i).map List.length) = false)) (fun i _ => 3 - (intOf i).toNat)
 case atStart => exact ⟨0, by omega, rfl, Lib.hid ⟨rfl, fun i hi => by omega⟩⟩
 case round =>
  obtain ⟨j, hj, rfl, HR⟩ := hrel
  obtain rfl := HR.out.1
  obtain rfl | rfl | rfl | rfl : j = 0 ∨ j = 1 ∨ j = 2 ∨ j = 3 := by omega
  ·
   have hix := ixr_fm0 g0 g1 g2 w1
   obtain ⟨q, hq⟩ : ∃ q, lensB (L.map List.length) ((fmPl 0).map List.length) = q := ⟨_, rfl⟩
   have HE := Lib.hid (p_eq_s L (fmPl 0) A n c HN.out.1 HN.out.2 g0 2 rfl (by decide) q hq w1 HS1.out HQ.out.1)
   have HQQ := Lib.hid hq
   clear hq
   rcases q with _ | _
   · go_wp2_with (go_at_call 70; ((with_reducible refine HE.out.mono ?_); rintro e w9 ⟨rfl, rfl⟩))
     go_roundw
     case rel => exact ⟨1, by omega, rfl, Lib.hid ⟨by first | rfl | trivial, fun i hi => by
      by_cases e : i = 0
      · rw [e]; exact HQQ.out
      · exact HR.out.2 i (by omega)⟩⟩
     case measure => simp [intOf]
   · go_wp2_with (go_at_call 70; ((with_reducible refine HE.out.mono ?_); rintro e w9 ⟨rfl, rfl⟩))
     go_ret2
     rw [fmt_is (k := 0) (by decide) HR.out.2 HQQ.out]
     exact ⟨fun _ => ⟨_, rfl, HQ.out.1⟩, fun h => absurd (by decide) h, HO.out⟩
  ·
   have hix := ixr_fm1 g0 g1 g2 w1
   obtain ⟨q, hq⟩ : ∃ q, lensB (L.map List.length) ((fmPl 1).map List.length) = q := ⟨_, rfl⟩
   have HE := Lib.hid (p_eq_s L (fmPl 1) A n c HN.out.1 HN.out.2 g1 2 rfl (by decide) q hq w1 HS1.out HQ.out.2.1)
   have HQQ := Lib.hid hq
   clear hq
   rcases q with _ | _
   · go_wp2_with (go_at_call 70; ((with_reducible refine HE.out.mono ?_); rintro e w9 ⟨rfl, rfl⟩))
     go_roundw
     case rel => exact ⟨2, by omega, rfl, Lib.hid ⟨by first | rfl | trivial, fun i hi => by
      by_cases e : i = 1
      · rw [e]; exact HQQ.out
      · exact HR.out.2 i (by omega)⟩⟩
     case measure => simp [intOf]
   · go_wp2_with (go_at_call 70; ((with_reducible refine HE.out.mono ?_); rintro e w9 ⟨rfl, rfl⟩))
     go_ret2
     rw [fmt_is (k := 1) (by decide) HR.out.2 HQQ.out]
     exact ⟨fun _ => ⟨_, rfl, HQ.out.2.1⟩, fun h => absurd (by decide) h, HO.out⟩
  ·
   have hix := ixr_fm2 g0 g1 g2 w1
   obtain ⟨q, hq⟩ : ∃ q, lensB (L.map List.length) ((fmPl 2).map List.length) = q := ⟨_, rfl⟩
   have HE := Lib.hid (p_eq_s L (fmPl 2) A n c HN.out.1 HN.out.2 g2 3 rfl (by decide) q hq w1 HS1.out HQ.out.2.2)
   have HQQ := Lib.hid hq
   clear hq
   rcases q with _ | _
   · go_wp2_with (go_at_call 70; ((with_reducible refine HE.out.mono ?_); rintro e w9 ⟨rfl, rfl⟩))
     go_roundw
     case rel => exact ⟨3, by omega, rfl, Lib.hid ⟨by first | rfl | trivial, fun i hi => by
      by_cases e : i = 2
      · rw [e]; exact HQQ.out
      · exact HR.out.2 i (by omega)⟩⟩
     case measure => simp [intOf]
   · go_wp2_with (go_at_call 70; ((with_reducible refine HE.out.mono ?_); rintro e w9 ⟨rfl, rfl⟩))
     go_ret2
     rw [fmt_is (k := 2) (by decide) HR.out.2 HQQ.out]
     exact ⟨fun _ => ⟨_, rfl, HQ.out.2.2⟩, fun h => absurd (by decide) h, HO.out⟩
  · go_wp2
    go_ret2
    rw [fmt_no HR.out.2]
    exact ⟨fun h => absurd h (by decide), fun _ => rfl, HO.out⟩
def gapB (r : List (List UInt8)) : Bool := r.any fun x => x == []
set_option maxHeartbeats 1600000 in
theorem p_index (r : List (List UInt8)) (A : Option Addr) (n c : Nat) (hn : r.length = n) (hl : n ≤ 10000000000000) (w : World) (hs : Strs w A r) :
 Calls Tryz.prog 143 #[.slice A n c, .string ⟨#[]⟩] w fun e w' => (∃ v : Int, e = .returned (.int .i64 v) ∧ decide (0 ≤ v) = gapB r) ∧ w = w' := by
 have HS := Lib.hid hs
 have HN := Lib.hid hn
 clear hs hn
 go_enter Tryz.func143, Tryz.ntmps143
 go_wp2
 go_loopw [8] (fun i wr => ∃ (j : Nat), j ≤ n ∧ i = .int .i64 (j : Int) ∧ Hid (w = wr ∧ ∀ i, i < j → (r.getD i [] == []) = false)) (fun i _ => n - (intOf i).toNat)
 case atStart => exact ⟨0, by omega, rfl, Lib.hid ⟨rfl, fun i hi => by omega⟩⟩
 case round =>
  obtain ⟨j, hj, rfl, HR⟩ := hrel
  obtain rfl := HR.out.1
  by_cases hlt : j < n
  ·
   have hj0 : (j : Int) < (n : Int) := by omega
   have hwj : wrap64 ((j : Int) + 1) = (j : Int) + 1 := by simp [wrap64]; omega
   obtain ⟨b1, o1, rfl, hc1⟩ := HS.out.cell1 (i := j) (by rw [HN.out]; exact hlt)
   obtain ⟨x, hx⟩ : ∃ x, r.getD j [] = x := ⟨_, rfl⟩
   obtain ⟨sx, hsx⟩ : ∃ sx, S x = sx := ⟨_, rfl⟩
   rw [hx, hsx] at hc1
   have HC1 := Lib.hid hc1
   obtain ⟨q, hq⟩ : ∃ q, (x == []) = q := ⟨_, rfl⟩
   have hsl : sx.toList = x := by rw [← hsx, S_toList]
   have HQ := Lib.hid (show _ ∧ _ from ⟨hx, hq⟩)
   have hem : sx.toList.isEmpty = q := by rw [hsl, ← hq]; cases x <;> rfl
   clear hc1 hx hsx hq hsl
   rcases q with _ | _
   · go_wp2_with (first
      | ((with_reducible refine at_load_ (d := 15) ?_); refine wpList_load_c rfl _ _ rfl b1 (o1 + j) rfl _ HC1.out (fun w => by kernel_rfl) ?_))
     go_roundw
     case rel => exact ⟨j + 1, by omega, by go_num, Lib.hid ⟨by first | rfl | trivial, fun i hi => by
      by_cases e : i = j
      · rw [e, HQ.out.1]; exact HQ.out.2
      · exact HR.out.2 i (by omega)⟩⟩
     case measure => simp [intOf]; omega
   · go_wp2_with (first
      | ((with_reducible refine at_load_ (d := 15) ?_); refine wpList_load_c rfl _ _ rfl b1 (o1 + j) rfl _ HC1.out (fun w => by kernel_rfl) ?_))
     go_ret
     refine ⟨⟨(j : Int), rfl, ?_⟩, rfl⟩
     have h1 : gapB r = true := by
      unfold gapB
      rw [List.any_eq_true]
      refine ⟨x, ?_, HQ.out.2⟩
      rw [← HQ.out.1, List.getD_eq_getElem?_getD, List.getElem?_eq_getElem (by rw [HN.out]; exact hlt)]
      exact List.getElem_mem _
     rw [h1]; simp
  · obtain rfl : j = n := by omega
    go_wp2
    go_ret
    refine ⟨⟨-1, rfl, ?_⟩, rfl⟩
    have h1 : gapB r = false := by
     unfold gapB
     rw [List.any_eq_false]
     intro x hx
     obtain ⟨i, hi, rfl⟩ := List.getElem_of_mem hx
     have := HR.out.2 i (by rw [← HN.out]; exact hi)
     rw [List.getD_eq_getElem?_getD, List.getElem?_eq_getElem hi] at this
     simpa using this
    rw [h1]; rfl
theorem p_gapr (r : List (List UInt8)) (A : Option Addr) (n c : Nat) (hn : r.length = n) (hl : n ≤ 10000000000000) (b : Bool) (hb : gapB r = b) (w : World) (hs : Strs w A r) :
 Calls Tryz.prog 111 #[.slice A n c] w fun e w' => e = .returned (.bool b) ∧ w = w' := by
 have H := Lib.hid (p_index r A n c hn hl w hs)
 have HB := Lib.hid hb
 clear hn hl hb hs
 go_enter Tryz.func111, Tryz.ntmps111
 have HC : Hid (Calls Tryz.prog 112 #[.slice A n c, .string ⟨#[]⟩] w fun e w' => e = .returned (.bool b) ∧ w = w') := Lib.hid (by
  go_enter Tryz.func112, Tryz.ntmps112
  go_wp2_with (go_at_call 143; ((with_reducible refine H.out.mono ?_); rintro e w9 ⟨⟨v, rfl, hv⟩, rfl⟩))
  go_ret
  refine ⟨?_, rfl⟩
  rw [← HB.out]
  rfl)
 go_wp2_with (go_at_call 112; ((with_reducible refine HC.out.mono ?_); rintro e w9 ⟨rfl, rfl⟩))
 go_ret
 exact ⟨rfl, rfl⟩
set_option maxHeartbeats 1600000 in
theorem p_gaps (L : List (List (List UInt8))) (A : Option Addr) (n c : Nat) (hn : L.length = n) (hl : n ≤ 10000000000000) (hr : ∀ r ∈ L, r.length ≤ 10000000000000) (w : World) (hs : Rdg w A L) :
 Calls Tryz.prog 144 #[.slice A n c, .func (.func 111) #[] #[]] w fun e w' => (∃ v : Int, e = .returned (.int .i64 v) ∧ decide (0 ≤ v) = L.any (fun r => gapB r)) ∧ w = w' := by
 have HS := Lib.hid hs
 have HN := Lib.hid hn
 have HR0 := Lib.hid hr
 clear hs hn hr
 go_enter Tryz.func144, Tryz.ntmps144
 go_wp2
 go_loopw [8] (fun i wr => ∃ (j : Nat), j ≤ n ∧ i = .int .i64 (j : Int) ∧ Hid (w = wr ∧ ∀ i, i < j → gapB (L.getD i []) = false)) (fun i _ => n - (intOf i).toNat)
 case atStart => exact ⟨0, by omega, rfl, Lib.hid ⟨rfl, fun i hi => by omega⟩⟩
 case round =>
  obtain ⟨j, hj, rfl, HR⟩ := hrel
  obtain rfl := HR.out.1
  by_cases hlt : j < n
  ·
   have hj0 : (j : Int) < (n : Int) := by omega
   have hwj : wrap64 ((j : Int) + 1) = (j : Int) + 1 := by simp [wrap64]; omega
   have hjl : j < L.length := by rw [HN.out]; exact hlt
   have hmem : L.getD j [] ∈ L := by rw [List.getD_eq_getElem?_getD, List.getElem?_eq_getElem hjl]; exact List.getElem_mem _
   obtain ⟨b1, o1, A1, c1, rfl, hc1, hs1⟩ := HS.out.cell (i := j) hjl
   have hlr := HR0.out _ hmem
   obtain ⟨r, hr⟩ : ∃ r, L.getD j [] = r := ⟨_, rfl⟩
   obtain ⟨ln, hln⟩ : ∃ ln, r.length = ln := ⟨_, rfl⟩
   rw [hr] at hmem hs1 hlr hc1
   rw [hln] at hlr hc1
   have HC1 := Lib.hid hc1
   obtain ⟨q, hq⟩ : ∃ q, gapB r = q := ⟨_, rfl⟩
   have HG := Lib.hid (p_gapr r A1 ln c1 hln hlr q hq w hs1)
   have HQ := Lib.hid (show _ ∧ _ ∧ _ from ⟨hr, hq, hmem⟩)
   clear hc1 hr hq hs1 hln hmem hlr hjl
   rcases q with _ | _
   · go_wp2_with (first
      | ((with_reducible refine at_load_ (d := 15) ?_); refine wpList_load_c rfl _ _ rfl b1 (o1 + j) rfl _ HC1.out (fun w => by kernel_rfl) ?_)
      | (go_at_call 111; ((with_reducible refine HG.out.mono ?_); rintro e w9 ⟨rfl, rfl⟩)))
     go_roundw
     case rel => exact ⟨j + 1, by omega, by go_num, Lib.hid ⟨by first | rfl | trivial, fun i hi => by
      by_cases e : i = j
      · rw [e, HQ.out.1]; exact HQ.out.2.1
      · exact HR.out.2 i (by omega)⟩⟩
     case measure => simp [intOf]; omega
   · go_wp2_with (first
      | ((with_reducible refine at_load_ (d := 15) ?_); refine wpList_load_c rfl _ _ rfl b1 (o1 + j) rfl _ HC1.out (fun w => by kernel_rfl) ?_)
      | (go_at_call 111; ((with_reducible refine HG.out.mono ?_); rintro e w9 ⟨rfl, rfl⟩)))
     go_ret
     refine ⟨⟨(j : Int), rfl, ?_⟩, rfl⟩
     have h1 : (L.any fun r => gapB r) = true := by
      rw [List.any_eq_true]
      exact ⟨r, HQ.out.2.2, HQ.out.2.1⟩
     rw [h1]; simp
  · obtain rfl : j = n := by omega
    go_wp2
    go_ret
    refine ⟨⟨-1, rfl, ?_⟩, rfl⟩
    have h1 : (L.any fun r => gapB r) = false := by
     rw [List.any_eq_false]
     intro r hr
     obtain ⟨i, hi, rfl⟩ := List.getElem_of_mem hr
     have := HR.out.2 i (by rw [← HN.out]; exact hi)
     rw [List.getD_eq_getElem?_getD, List.getElem?_eq_getElem hi] at this
     rw [Option.getD_some] at this
     rw [this]; decide
    rw [h1]; rfl
theorem p_gapf (L : List (List (List UInt8))) (A : Option Addr) (n c : Nat) (hn : L.length = n) (hl : n ≤ 10000000000000) (hr : ∀ r ∈ L, r.length ≤ 10000000000000) (b : Bool) (hb : (L.any fun r => gapB r) = b) (w : World) (hs : Rdg w A L) :
 Calls Tryz.prog 113 #[.slice A n c, .func (.func 111) #[] #[]] w fun e w' => e = .returned (.bool b) ∧ w = w' := by
 have H := Lib.hid (p_gaps L A n c hn hl hr w hs)
 have HB := Lib.hid hb
 clear hs hb hl hr hn
 go_enter Tryz.func113, Tryz.ntmps113
 go_wp2_with (go_at_call 144; ((with_reducible refine H.out.mono ?_); rintro e w9 ⟨⟨v, rfl, hv⟩, rfl⟩))
 go_ret
 refine ⟨?_, rfl⟩
 rw [← HB.out]
 rfl
def compB (L : List (List (List UInt8))) : Bool := decide (fmt3 (L.map List.length) < 3) && !(L.any fun r => gapB r)
theorem p_complete (L : List (List (List UInt8))) (A : Option Addr) (n c : Nat) (hn : L.length = n) (hl : n ≤ 10000000000000) (hr : ∀ r ∈ L, r.length ≤ 10000000000000) (b : Bool) (hb : compB L = b) (w : World) (hs : Rdg w A L) :
 Calls Tryz.prog 64 #[.slice A n c] w fun e w' => e = .returned (.bool b) ∧ Below w.heap.size w w' := by
 have HP := Lib.hid (p_places_r L A n c hn hl w hs)
 obtain ⟨k, hk⟩ : ∃ k, fmt3 (L.map List.length) = k := ⟨_, rfl⟩
 obtain ⟨q, hq⟩ : ∃ q, (L.any fun r => gapB r) = q := ⟨_, rfl⟩
 have HG := Lib.hid (fun w hs => p_gapf L A n c hn hl hr q hq w hs)
 have HS := Lib.hid hs
 unfold compB at hb
 rw [hk] at HP hb
 rw [hq] at hb
 clear hn hl hr hs hk hq
 by_cases h3 : k < 3
 · have HB := Lib.hid (show (!q) = b by rw [← hb]; simp [h3])
   have H3 := Lib.hid h3
   clear hb h3
   go_enter Tryz.func64, Tryz.ntmps64
   go_wp2_with (first
    | (go_at_call 110; ((with_reducible refine HP.out.mono ?_); rintro e w1 ⟨h1, _, hb1⟩; obtain ⟨A1, rfl, _⟩ := h1 H3.out); have HB1 := Lib.hid hb1; clear h1 hb1)
    | (go_at_call 113; ((with_reducible refine (HG.out _ (HS.out.on HB1.out)).mono ?_); rintro e w9 ⟨rfl, rfl⟩)))
   go_ret
   exact ⟨by rw [← HB.out]; rfl, HB1.out⟩
 · have HB := Lib.hid (show false = b by rw [← hb]; simp [h3])
   have H3 := Lib.hid h3
   clear hb h3
   go_enter Tryz.func64, Tryz.ntmps64
   go_wp2_with (first
    | (go_at_call 110; ((with_reducible refine HP.out.mono ?_); rintro e w1 ⟨_, h1, hb1⟩; obtain rfl := h1 H3.out); have HB1 := Lib.hid hb1; clear h1 hb1))
   go_ret
   exact ⟨by rw [← HB.out]; rfl, HB1.out⟩
theorem shape_lens (x : List (List UInt8)) : shapeL x ≠ 0 ↔ (x.map List.length = [30, 30, 30] ∨ x.map List.length = [36, 36] ∨ x.map List.length = [44, 44]) := by
 rcases x with _ | ⟨a, _ | ⟨b, _ | ⟨c, _ | ⟨d, t⟩⟩⟩⟩
 · simp [shapeL]
 · simp [shapeL]
 · simp only [shapeL, List.length_cons, List.length_nil, List.map_cons, List.map_nil, List.getD_cons_zero, List.getD_cons_succ]
   by_cases h1 : a.length = 36 ∧ b.length = 36
   · simp [h1]
   · by_cases h2 : a.length = 44 ∧ b.length = 44
     · simp [h2]
     · simp [h1, h2]
 · simp only [shapeL, List.length_cons, List.length_nil, List.map_cons, List.map_nil, List.getD_cons_zero, List.getD_cons_succ]
   by_cases h1 : a.length = 30 ∧ b.length = 30 ∧ c.length = 30
   · simp [h1]
   · simp [h1]
 · simp [shapeL]
theorem fmt_lens (ls : List Nat) : fmt3 ls < 3 ↔ (ls = [30, 30, 30] ∨ ls = [36, 36] ∨ ls = [44, 44]) := by
 have e0 : (fmPl 0).map List.length = [44, 44] := by decide
 have e1 : (fmPl 1).map List.length = [36, 36] := by decide
 have e2 : (fmPl 2).map List.length = [30, 30, 30] := by decide
 unfold fmt3 lensB
 rw [e0, e1, e2]
 by_cases h0 : ls = [44, 44]
 · simp [h0]
 · by_cases h1 : ls = [36, 36]
   · simp [h1]
   · by_cases h2 : ls = [30, 30, 30]
     · simp [h2]
     · simp [h0, h1, h2]
theorem xL_lens (L : List (List (List UInt8))) : (xL L).map List.length = L.map List.length := by
 unfold xL
 rw [List.map_map]
 exact List.map_congr_left fun r _ => by simp
theorem cmpl_eq (L : List (List (List UInt8))) : compB L = cmplL L := by
 unfold compB cmplL
 have h := shape_lens (xL L)
 rw [xL_lens, ← fmt_lens] at h
 have h2 : (!(L.any fun r => gapB r)) = L.all fun r => r.all fun s => s != [] := by
  rw [List.not_any_eq_all_not]
  congr 1
  funext r
  unfold gapB
  rw [List.not_any_eq_all_not]
  rfl
 rw [h2]
 congr 1
 by_cases h3 : shapeL (xL L) = 0
 · have : ¬ fmt3 (L.map List.length) < 3 := fun h4 => h.2 h4 h3
   simp [h3, this]
 · simp [h3, h.1 h3]
def cnt2 (D : List (List (List UInt8))) (i k : Nat) : Nat := sizeS (D.take i) * sizeL ((D.getD i []).take k)
theorem cnt2_zero (D : List (List (List UInt8))) (i : Nat) : cnt2 D i 0 = sizeS (D.take i) := by simp [cnt2, sizeL]
theorem cnt2_row (D : List (List (List UInt8))) {i k : Nat} (hi : i < D.length) (hk : (D.getD i []).length ≤ k) : cnt2 D i k = sizeS (D.take (i + 1)) := by
 unfold cnt2
 rw [List.take_of_length_le hk, List.take_add_one, sizeS_append]
 congr 1
 rw [List.getElem?_eq_getElem hi]
 simp [List.getD, hi, sizeS]
theorem cnt2_next (D : List (List (List UInt8))) {i k : Nat} (hk : k < (D.getD i []).length) : cnt2 D i (k + 1) = cnt2 D i k * ((D.getD i []).getD k []).length := by
 unfold cnt2
 rw [List.take_add_one, sizeL_append, ← Nat.mul_assoc]
 congr 1
 obtain ⟨r, hr⟩ : ∃ r, D.getD i [] = r := ⟨_, rfl⟩
 rw [hr] at hk ⊢
 rw [List.getElem?_eq_getElem hk]
 simp [sizeL, List.getD, hk]
theorem cnt2_le (D : List (List (List UInt8))) (hp : ∀ r ∈ D, ∀ s ∈ r, s ≠ []) {i k : Nat} (hi : i < D.length) : cnt2 D i k ≤ sizeS D := by
 unfold cnt2
 have h1 : sizeS D = sizeS (D.take i) * (sizeL (D.getD i []) * sizeS (D.drop (i + 1))) := by
  conv => lhs; rw [← List.take_append_drop i D, sizeS_append, drop_cons [] D i hi]
  rfl
 have hm : D.getD i [] ∈ D := by rw [List.getD_eq_getElem?_getD, List.getElem?_eq_getElem hi]; exact List.getElem_mem _
 have h2 : sizeL (D.getD i []) = sizeL ((D.getD i []).take k) * sizeL ((D.getD i []).drop k) := by rw [← sizeL_append, List.take_append_drop]
 have p1 : 0 < sizeL ((D.getD i []).drop k) := sizeL_pos fun s hs => hp _ hm s (List.mem_of_mem_drop hs)
 have p2 : 0 < sizeS (D.drop (i + 1)) := sizeS_pos fun r hr => hp r (List.mem_of_mem_drop hr)
 rw [h1]
 refine Nat.mul_le_mul_left _ ?_
 rw [h2]
 calc sizeL ((D.getD i []).take k) ≤ sizeL ((D.getD i []).take k) * sizeL ((D.getD i []).drop k) := Nat.le_mul_of_pos_right _ p1
  _ ≤ _ := Nat.le_mul_of_pos_right _ p2
theorem dst_len (L : List (List (List UInt8))) : (dst L).length = L.length := by simp [dst]
theorem dst_get (L : List (List (List UInt8))) {i : Nat} (hi : i < L.length) : (dst L).getD i [] = (L.getD i []).map sortU := by simp [dst, List.getD, hi]
theorem dst_get2 (L : List (List (List UInt8))) {i k : Nat} (hi : i < L.length) (hk : k < (L.getD i []).length) : ((dst L).getD i []).getD k [] = sortU ((L.getD i []).getD k []) := by
 rw [dst_get L hi]
 simp only [List.getD_eq_getElem?_getD] at hk ⊢
 simp [hk]
theorem dst_row_len (L : List (List (List UInt8))) {i : Nat} (hi : i < L.length) : ((dst L).getD i []).length = (L.getD i []).length := by rw [dst_get L hi]; simp
theorem dst_pos {L : List (List (List UInt8))} (h : cmplL L = true) : ∀ r ∈ dst L, ∀ s ∈ r, s ≠ [] := by
 intro r hr s hs
 unfold cmplL at h
 rw [Bool.and_eq_true, List.all_eq_true] at h
 unfold dst at hr
 obtain ⟨r', hr', rfl⟩ := List.mem_map.1 hr
 obtain ⟨s', hs', rfl⟩ := List.mem_map.1 hs
 have h2 := h.2 r' hr'
 rw [List.all_eq_true] at h2
 have h3 := h2 s' hs'
 intro e
 rw [sortU_nil.1 e] at h3
 exact absurd h3 (by decide)
theorem comp_ne {L : List (List (List UInt8))} (h : cmplL L = true) {i k : Nat} (hi : i < L.length) (hk : k < (L.getD i []).length) : (L.getD i []).getD k [] ≠ [] := by
 unfold cmplL at h
 rw [Bool.and_eq_true, List.all_eq_true] at h
 have hm : L.getD i [] ∈ L := by rw [List.getD_eq_getElem?_getD, List.getElem?_eq_getElem hi]; exact List.getElem_mem _
 have h2 := h.2 _ hm
 rw [List.all_eq_true] at h2
 have hm2 : (L.getD i []).getD k [] ∈ L.getD i [] := by
  generalize L.getD i [] = r at hk ⊢
  rw [List.getD_eq_getElem?_getD, List.getElem?_eq_getElem hk]; exact List.getElem_mem _
 have h3 := h2 _ hm2
 intro e
 rw [e] at h3
 exact absurd h3 (by decide)
theorem comp_shape {L : List (List (List UInt8))} (h : cmplL L = true) : L.map List.length = [30, 30, 30] ∨ L.map List.length = [36, 36] ∨ L.map List.length = [44, 44] := by
 unfold cmplL at h
 rw [Bool.and_eq_true] at h
 have := (shape_lens (xL L)).1 (by simpa using h.1)
 rwa [xL_lens] at this
theorem comp_len {L : List (List (List UInt8))} (h : cmplL L = true) : L.length = 2 ∨ L.length = 3 := by
 have h1 := comp_shape h
 have h2 : L.length = (L.map List.length).length := by simp
 rcases h1 with e | e | e <;> rw [e] at h2 <;> simp at h2 <;> omega
theorem comp_row {L : List (List (List UInt8))} (h : cmplL L = true) {i : Nat} (hi : i < L.length) : (L.getD i []).length ≤ 44 ∧ 30 ≤ (L.getD i []).length := by
 have h1 := comp_shape h
 have h2 : (L.map List.length).getD i 0 = (L.getD i []).length := by simp [List.getD, hi]
 have h3 : L.length = (L.map List.length).length := by simp
 rw [← h2]
 rcases h1 with e | e | e
 · rw [e] at h3 ⊢; simp at h3
   obtain rfl | rfl | rfl : i = 0 ∨ i = 1 ∨ i = 2 := by omega
   all_goals decide
 · rw [e] at h3 ⊢; simp at h3
   obtain rfl | rfl : i = 0 ∨ i = 1 := by omega
   all_goals decide
 · rw [e] at h3 ⊢; simp at h3
   obtain rfl | rfl : i = 0 ∨ i = 1 := by omega
   all_goals decide
def Fits3 (L : List (List (List UInt8))) : Prop := L.length ≤ 10000000000000 ∧ (∀ r ∈ L, r.length ≤ 10000000000000) ∧ ∀ r ∈ L, ∀ s ∈ r, s.length ≤ 4611686018427387904
theorem Fits3.at3 {L : List (List (List UInt8))} (h : Fits3 L) {i k : Nat} (hi : i < L.length) (hk : k < (L.getD i []).length) : ((L.getD i []).getD k []).length ≤ 4611686018427387904 := by
 have hm : L.getD i [] ∈ L := by rw [List.getD_eq_getElem?_getD, List.getElem?_eq_getElem hi]; exact List.getElem_mem _
 have hm2 : (L.getD i []).getD k [] ∈ L.getD i [] := by
  generalize L.getD i [] = r at hk ⊢
  rw [List.getD_eq_getElem?_getD, List.getElem?_eq_getElem hk]; exact List.getElem_mem _
 exact h.2.2 _ hm _ hm2
set_option maxHeartbeats 3200000 in
set_option maxRecDepth 20000 in
theorem p_count (L : List (List (List UInt8))) (A : Option Addr) (n c : Nat) (hn : L.length = n) (hf : Fits3 L) (w : World) (hs : Rdg w A L) :
 Calls Tryz.prog 31 #[.slice A n c] w fun e w' => e = .returned (.tuple #[.int .i64 (cntV L : Int), .int .i64 (cntE L)]) ∧ Below w.heap.size w w' := by
 obtain ⟨b, hb⟩ : ∃ b, cmplL L = b := ⟨_, rfl⟩
 have HC := Lib.hid (p_complete L A n c hn (by rw [← hn]; exact hf.1) hf.2.1 b (by rw [cmpl_eq]; exact hb) w hs)
 have HS := Lib.hid hs
 have HN := Lib.hid hn
 have HF := Lib.hid hf
 clear hs hf
 rcases b with _ | _
 · have HE := Lib.hid (show cntE L = 1 by unfold cntE; rw [if_pos hb])
   have HV := Lib.hid (show cntV L = 0 by unfold cntV; rw [HE.out, if_neg (by decide)])
   clear hn hb
   go_enter Tryz.func31, Tryz.ntmps31
   go_wp2_with (go_at_call 64; ((with_reducible refine HC.out.mono ?_); rintro e w1 ⟨rfl, hb1⟩); have HB1 := Lib.hid hb1; clear hb1)
   go_ret2
   exact ⟨by rw [HE.out, HV.out]; rfl, HB1.out⟩
 ·
  have hn3 : n = 2 ∨ n = 3 := by rw [← hn]; exact comp_len hb
  have hn4 : n ≤ 3 := by rcases hn3 with h | h <;> omega
  have HCB := Lib.hid hb
  have HP := Lib.hid (dst_pos hb)
  clear hn hb hn3
  go_enter Tryz.func31, Tryz.ntmps31
  go_wp2_with (go_at_call 64; ((with_reducible refine HC.out.mono ?_); rintro e w1 ⟨rfl, hb1⟩); have HB1 := Lib.hid hb1; clear hb1)
  go_loopw [14, 4] (fun i v wr => ∃ (j N : Nat), j ≤ n ∧ i = .int .i64 (j : Int) ∧ v = .int .i64 (N : Int) ∧ N ≤ 4096 ∧ Hid (N = sizeS ((dst L).take j) ∧ Below w.heap.size w wr)) (fun i _ _ => n - (intOf i).toNat)
  case atStart => exact ⟨0, 1, by omega, rfl, rfl, by omega, Lib.hid ⟨rfl, HB1.out⟩⟩
  case round =>
   obtain ⟨j, N, hj, rfl, rfl, hN, HH⟩ := hrel
   by_cases hlt : j < n
   ·
    have hj0 : (j : Int) < (n : Int) := by omega
    have hwj : wrap64 ((j : Int) + 1) = (j : Int) + 1 := by simp [wrap64]; omega
    have hjl : j < L.length := by rw [HN.out]; exact hlt
    obtain ⟨b1, o1, A1, c1, rfl, hc1, hs1⟩ := (HS.out.on HH.out.2).cell (i := j) hjl
    have hr44 := (comp_row HCB.out hjl).1
    obtain ⟨r, hr⟩ : ∃ r, L.getD j [] = r := ⟨_, rfl⟩
    obtain ⟨ln, hln⟩ : ∃ ln, r.length = ln := ⟨_, rfl⟩
    rw [hr] at hs1 hc1 hr44
    rw [hln] at hc1 hr44
    have HC1 := Lib.hid hc1
    have HS1 := Lib.hid hs1
    have HR := Lib.hid (show _ ∧ _ ∧ _ from ⟨hjl, hr, hln⟩)
    clear hc1 hs1 hr hln hjl
    go_wp2_with (first
     | ((with_reducible refine at_load_ (d := 17) ?_); refine wpList_load_c rfl _ _ rfl b1 (o1 + j) rfl _ HC1.out (fun w => by kernel_rfl) ?_))
    go_loopw [20, 4] (fun i v wq => ∃ (k N : Nat), k ≤ ln ∧ i = .int .i64 (k : Int) ∧ v = .int .i64 (N : Int) ∧ N ≤ 4096 ∧ Hid (N = cnt2 (dst L) j k ∧ Below w.heap.size w wq ∧ Below wr.heap.size wr wq)) (fun i _ _ => ln - (intOf i).toNat)
    case atStart => exact ⟨0, N, by omega, rfl, rfl, hN, Lib.hid ⟨by rw [cnt2_zero]; exact HH.out.1, HH.out.2, Below.refl _ _⟩⟩
    case round =>
     clear hN HH
     obtain ⟨k, N, hk, rfl, rfl, hN, HH⟩ := hrel
     by_cases hlk : k < ln
     ·
      have hk0 : (k : Int) < (ln : Int) := by omega
      have hwk : wrap64 ((k : Int) + 1) = (k : Int) + 1 := by simp [wrap64]; omega
      have hkr : k < r.length := by rw [HR.out.2.2]; exact hlk
      obtain ⟨b2, o2, rfl, hc2⟩ := (HS1.out.on HH.out.2.2).cell1 (i := k) hkr
      obtain ⟨x, hx⟩ : ∃ x, r.getD k [] = x := ⟨_, rfl⟩
      obtain ⟨m, hm⟩ : ∃ m, (sortU x).length = m := ⟨_, rfl⟩
      obtain ⟨P, hP⟩ : ∃ P, N * m = P := ⟨_, rfl⟩
      have hm2 : m ≤ 256 := by rw [← hm]; exact sortU_len x
      have hP2 : P ≤ 1048576 := by rw [← hP]; exact Nat.le_trans (Nat.mul_le_mul hN hm2) (by decide)
      have hPP : (N : Int) * (m : Int) = (P : Int) := by rw [← hP]; simp
      have hwm : wrap64 ((N : Int) * (m : Int)) = (P : Int) := by rw [hPP]; simp [wrap64]; omega
      rw [hx] at hc2
      have HC2 := Lib.hid hc2
      have hx0 : x ≠ [] := by
       have := comp_ne HCB.out HR.out.1 (k := k) (by rw [HR.out.2.1]; exact hkr)
       rwa [HR.out.2.1, hx] at this
      have hxl : x.length ≤ 4611686018427387904 := by
       have := HF.out.at3 HR.out.1 (k := k) (by rw [HR.out.2.1]; exact hkr)
       rwa [HR.out.2.1, hx] at this
      have hnx : cnt2 (dst L) j (k + 1) = P := by
       rw [cnt2_next _ (by rw [dst_row_len L HR.out.1, HR.out.2.1]; exact hkr), dst_get2 L HR.out.1 (by rw [HR.out.2.1]; exact hkr), HR.out.2.1, hx, hm, ← HH.out.1, hP]
      have HD := Lib.hid (fun w => p_distinct x hx0 hxl w)
      rw [hm] at HD
      have HNX := Lib.hid hnx
      clear hc2 hx hm hP hPP hx0 hxl hnx hkr
      by_cases hg : (4096 : Int) < (P : Int)
      · go_wp2_with (first
         | ((with_reducible refine at_load_ (d := 23) ?_); refine wpList_load_c rfl _ _ rfl b2 (o2 + k) rfl _ HC2.out (fun w => by kernel_rfl) ?_)
         | (go_at_call 65; ((with_reducible refine (HD.out _).mono ?_); rintro e w3 ⟨g3, c3, ex3, rfl, _, _, hb3⟩); have HB3 := Lib.hid hb3; clear hb3))
        go_ret2
        have e1 : 4096 < sizeS (dst L) := by
         have := cnt2_le (dst L) HP.out (i := j) (k := k + 1) (by rw [dst_len]; exact HR.out.1)
         rw [HNX.out] at this
         omega
        have e2 : cntE L = 24 := by unfold cntE; rw [if_neg (by rw [HCB.out]; decide), if_pos e1]
        have e3 : cntV L = 0 := by unfold cntV; rw [e2, if_neg (by decide)]
        exact ⟨by rw [e2, e3]; rfl, below_on HH.out.2.1 HB3.out⟩
      · go_wp2_with (first
         | ((with_reducible refine at_load_ (d := 23) ?_); refine wpList_load_c rfl _ _ rfl b2 (o2 + k) rfl _ HC2.out (fun w => by kernel_rfl) ?_)
         | (go_at_call 65; ((with_reducible refine (HD.out _).mono ?_); rintro e w3 ⟨g3, c3, ex3, rfl, _, _, hb3⟩); have HB3 := Lib.hid hb3; clear hb3))
        go_roundw
        case rel => exact ⟨k + 1, P, by omega, by go_num, by rw [hwm], by omega, Lib.hid ⟨HNX.out.symm, below_on HH.out.2.1 HB3.out, below_on HH.out.2.2 HB3.out⟩⟩
        case measure => simp [intOf]; omega
     · obtain rfl : k = ln := by omega
       go_wp2
       go_roundw
       case rel => exact ⟨j + 1, N, by omega, by go_num, rfl, hN, Lib.hid ⟨by rw [HH.out.1]; exact cnt2_row (dst L) (by rw [dst_len]; exact HR.out.1) (by rw [dst_row_len L HR.out.1, HR.out.2.1, HR.out.2.2]; exact Nat.le_refl _), HH.out.2.1⟩⟩
       case measure => simp [intOf]; omega
   · obtain rfl : j = n := by omega
     go_wp2
     go_ret2
     have e1 : sizeS (dst L) = N := by rw [HH.out.1, List.take_of_length_le (by rw [dst_len, HN.out]; exact Nat.le_refl _)]
     have e2 : cntE L = 0 := by unfold cntE; rw [if_neg (by rw [HCB.out]; decide), e1, if_neg (by omega)]
     have e3 : cntV L = N := by unfold cntV; rw [if_pos e2, e1]
     exact ⟨by rw [e2, e3]; rfl, HH.out.2⟩
section
variable {P : Program} {ops : Array Oper} {rest : List Oper} {op : Oper} {a : Act} {w : World} {Q : Exit → Act → World → Prop}
theorem wpList_alloc_1 (hgd : op.guard = none) (ty : TypeId) (ho : op.op = .alloc ty) (z : Value) (hz : (P.info? ty).map (·.zero) = some (some z)) (hz1 : z.cells = #[z])
 (hK : ∀ g w', Fresh w w' g → RowV w' g [z] → wpList P ops Q rest (a.put op.dst (.pointer (some ⟨g, 0, none⟩))) w') : wpList P ops Q (op :: rest) a w := by
 refine wpList_plain hgd fun K hK2 => ?_
 have hz2 : ∀ w, (zeroValue ty).run P w = .ok z w := by
  intro w
  cases hq : P.info? ty with
  | none => simp [hq] at hz
  | some i =>
   simp [hq] at hz
   simp [zeroValue, typeInfo, hq, hz]
 have hr : (Instr.alloc ty true (.tuple #[])).run P w = .ok (.pointer (some ⟨w.heap.size, 0, none⟩)) (w.alloc (.cells #[z] ty)) := by
  simp [Instr.alloc, Sem.run_bind, hz2, newVar, newRow, newObj, hz1]
  rfl
 unfold Oper.wp execOp
 simp only [ho, Sem.run_bind, hr, Result.andThen_ok]
 exact hK2 _ _ (hK _ _ ⟨rfl, _, rfl⟩ (RowV.new rfl))
theorem wpList_box_1 (hgd : op.guard = none) (ty : TypeId) (x : Operand) (ho : op.op = .box ty x) (u : Value) (hx : a.eval x = u) (hc : u.cells = #[u])
 (hK : ∀ g w', Fresh w w' g → RowV w' g [u] → wpList P ops Q rest (a.put op.dst (.pointer (some ⟨g, 0, none⟩))) w') : wpList P ops Q (op :: rest) a w := by
 refine wpList_plain hgd fun K hK2 => ?_
 have hr : (Instr.box ty u).run P w = .ok (.pointer (some ⟨w.heap.size, 0, none⟩)) (w.alloc (.cells #[u] ty)) := by
  simp [Instr.box, newVar, newRow, newObj, hc]
  rfl
 unfold Oper.wp execOp
 simp only [ho, hx, Sem.run_bind, hr, Result.andThen_ok]
 exact hK2 _ _ (hK _ _ ⟨rfl, _, rfl⟩ (RowV.new rfl))
end
theorem made_list (z : Value) (n : Nat) : (madeCells #[z] n).toList = List.replicate n z := toList_madeCells_one z n
theorem own_iff {w cur : World} {L : List (Nat × List Value)} : Own w cur L ↔ Below w.heap.size w cur ∧ (∀ p ∈ L, w.heap.size ≤ p.1 ∧ RowV cur p.1 p.2) ∧ (L.map (·.1)).Nodup := by
 constructor
 · rintro ⟨h1, h2, h3⟩
   refine ⟨h1, fun p hp => ?_, ?_⟩
   · obtain ⟨i, hi, e⟩ := List.getElem_of_mem hp
     exact h2 i p.1 p.2 (by rw [List.getElem?_eq_getElem hi, e])
   · rw [List.nodup_iff_pairwise_ne, List.pairwise_map, List.pairwise_iff_getElem]
     intro i j hi hj hij
     exact h3 i j _ _ _ _ (by rw [List.getElem?_eq_getElem hi]) (by rw [List.getElem?_eq_getElem hj]) (by omega)
 · rintro ⟨h1, h2, h3⟩
   refine ⟨h1, fun i g vs e => h2 (g, vs) (List.mem_of_getElem? e), fun i j g g' vs vs' e e' hne => ?_⟩
   rw [List.nodup_iff_pairwise_ne, List.pairwise_map, List.pairwise_iff_getElem] at h3
   obtain ⟨hi, ei⟩ := List.getElem?_eq_some_iff.1 e
   obtain ⟨hj, ej⟩ := List.getElem?_eq_some_iff.1 e'
   rcases Nat.lt_or_gt_of_ne hne with h | h
   · have := h3 i j hi hj h
     rw [ei, ej] at this
     exact this
   · have := h3 j i hj hi h
     rw [ei, ej] at this
     exact this.symm
theorem Own.perm {w cur : World} {L M : List (Nat × List Value)} (h : Own w cur L) (hp : L.Perm M) : Own w cur M := by
 rw [own_iff] at h ⊢
 exact ⟨h.1, fun p hm => h.2.1 p (hp.mem_iff.2 hm), (hp.map _).nodup_iff.1 h.2.2⟩
theorem Own.mid {w cur : World} {A B : List (Nat × List Value)} {x : Nat × List Value} (h : Own w cur (A ++ B ++ [x])) : Own w cur ((A ++ [x]) ++ B) := by
 refine h.perm ?_
 rw [List.append_assoc, List.append_assoc]
 exact List.Perm.append_left A List.perm_append_comm
theorem Own.mem {w cur : World} {L : List (Nat × List Value)} (h : Own w cur L) {g : Nat} {vs : List Value} (hm : (g, vs) ∈ L) : RowV cur g vs := ((own_iff.1 h).2.1 _ hm).2
end Go.Proofs.YtibahbkjjfmbgaaGreatDoor
