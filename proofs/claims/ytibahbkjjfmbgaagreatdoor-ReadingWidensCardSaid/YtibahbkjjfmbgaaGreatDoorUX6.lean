/-
  What is proved here: similar characters, by the program and by the reference.
-/
import Derived.Test.YtibahbkjjfmbgaaGreatDoorUA5
import Derived.Test.YtibahbkjjfmbgaaGreatDoorUA1
import Derived.Test.YtibahbkjjfmbgaaGreatDoorUShf
import Derived.Deep.MidRow
import Derived.Test.YtibahbkjjfmbgaaGreatDoorUX3
import Derived.Test.YtibahbkjjfmbgaaGreatDoorUX5
import Derived.Test.YtibahbkjjfmbgaaGreatDoorUY14
import Derived.Test.YtibahbkjjfmbgaaGreatDoorUY12
namespace Go.Proofs.YtibahbkjjfmbgaaGreatDoor
open Go.RowKit
set_option linter.unusedVariables false
def simG : List (List UInt8) := [[48, 68, 79, 81], [49, 73, 76], [50, 90], [53, 83], [54, 71], [56, 66]]
def simV : List Value := simG.map fun x => .string (S x)
def TabG (g : Nat) (w : World) : Prop := g < w.heap.size ∧ w.rangeAt g 0 simV
theorem TabG.on {g : Nat} {w w' : World} (h : TabG g w) (hb : Below w.heap.size w w') : TabG g w' := ⟨Nat.lt_of_lt_of_le h.1 hb.size, fun j v hv => (hb.cell (p := ⟨g, 0 + j, none⟩) h.1).trans (h.2 j v hv)⟩
def simB (g : List UInt8) (c : Nat) : Bool := g.any fun b => b.toNat == c
def simL (c : Nat) : List UInt8 := if vI (c : Int) < 0 then [] else match simG.find? (fun g => simB g c) with
 | some g => g
 | none => [UInt8.ofNat c]
theorem sim_at {c k : Nat} (hv : 0 ≤ vI (c : Int)) (hk : k < 6) (h : ∀ i, i < k → simB (simG.getD i []) c = false) (h1 : simB (simG.getD k []) c = true) : simL c = simG.getD k [] := by
 unfold simL
 rw [if_neg (by omega)]
 have e : simG.find? (fun g => simB g c) = some (simG.getD k []) := by
  rw [List.find?_eq_some_iff_getElem]
  refine ⟨h1, k, hk, by rw [List.getD_eq_getElem?_getD, List.getElem?_eq_getElem hk]; rfl, fun j hj => ?_⟩
  have := h j hj
  rw [List.getD_eq_getElem?_getD, List.getElem?_eq_getElem (show j < simG.length from Nat.lt_trans hj hk), Option.getD_some] at this
  rw [this]; rfl
 rw [e]
theorem sim_no {c : Nat} (hv : 0 ≤ vI (c : Int)) (h : ∀ i, i < 6 → simB (simG.getD i []) c = false) : simL c = [UInt8.ofNat c] := by
 unfold simL
 rw [if_neg (by omega)]
 have e : simG.find? (fun g => simB g c) = none := by
  rw [List.find?_eq_none]
  intro x hx
  obtain ⟨i, hi, rfl⟩ := List.getElem_of_mem hx
  have := h i hi
  rw [List.getD_eq_getElem?_getD, List.getElem?_eq_getElem hi, Option.getD_some] at this
  rw [this]; decide
 rw [e]
theorem ib_has (x : List UInt8) (c : Nat) (hc : c < 256) : decide (0 ≤ Lib.indexByte (S x).data.toList ((c : Int).toNat.toUInt8)) = simB x c := by
 rw [S_data]
 have e0 : (c : Int).toNat.toUInt8 = UInt8.ofNat c := rfl
 rw [e0]
 unfold simB
 induction x with
 | nil => rfl
 | cons b l ih =>
  have hge := Lib.indexByte_ge l (UInt8.ofNat c)
  unfold Lib.indexByte
  rw [List.any_cons, ← ih]
  by_cases h : b = UInt8.ofNat c
  · have h2 : b.toNat = c := by rw [h, UInt8.toNat_ofNat']; omega
    rw [if_pos (by simpa using h)]
    simp [h2]
  · have h2 : ¬ b.toNat = c := fun e => h (by rw [← e, UInt8.ofNat_toNat])
    rw [if_neg (by simpa using h)]
    have h3 : (b.toNat == c) = false := by simpa using h2
    rw [h3, Bool.false_or]
    by_cases h4 : Lib.indexByte l (UInt8.ofNat c) = -1
    · rw [if_pos (by simp [h4]), h4]
    · rw [if_neg (by simpa using h4)]
      have : (0 ≤ Lib.indexByte l (UInt8.ofNat c) + 1) ↔ 0 ≤ Lib.indexByte l (UInt8.ofNat c) := by omega
      simp only [this]
theorem vI_range {c : Nat} (h : 0 ≤ vI (c : Int)) : c < 128 := by
 rcases Nat.lt_or_ge c 128 with h1 | h1
 · exact h1
 · rw [vI_4 (by omega) (by omega) (by omega)] at h; omega
theorem enc_small {c : Nat} (h : c < 128) : Utf8.encode (c : Int) = S [UInt8.ofNat c] := by
 have hv : Utf8.valid (c : Int) = true := by simp [Utf8.valid]; omega
 unfold Utf8.encode
 simp only [hv, if_true, Int.toNat_natCast]
 rw [if_pos h]; rfl
theorem size_6s : (Tryz.prog.info? 57).map (·.size) = some simV.length := by kernel_rfl
theorem ix_sim0 (w : World) : (Instr.index 57 (.agg simV.toArray) (.int .i64 0)).run Tryz.prog w = .ok (.string (S (simG.getD 0 []))) w := by
 have hu := Tryz.underlying57
 have hz := Tryz.sizeOf9
 simp [Instr.index, asIntOf, run_underlying hu, hz, go_sem, part, simV, simG]
theorem ix_sim1 (w : World) : (Instr.index 57 (.agg simV.toArray) (.int .i64 1)).run Tryz.prog w = .ok (.string (S (simG.getD 1 []))) w := by
 have hu := Tryz.underlying57
 have hz := Tryz.sizeOf9
 simp [Instr.index, asIntOf, run_underlying hu, hz, go_sem, part, simV, simG]
theorem ix_sim2 (w : World) : (Instr.index 57 (.agg simV.toArray) (.int .i64 2)).run Tryz.prog w = .ok (.string (S (simG.getD 2 []))) w := by
 have hu := Tryz.underlying57
 have hz := Tryz.sizeOf9
 simp [Instr.index, asIntOf, run_underlying hu, hz, go_sem, part, simV, simG]
theorem ix_sim3 (w : World) : (Instr.index 57 (.agg simV.toArray) (.int .i64 3)).run Tryz.prog w = .ok (.string (S (simG.getD 3 []))) w := by
 have hu := Tryz.underlying57
 have hz := Tryz.sizeOf9
 simp [Instr.index, asIntOf, run_underlying hu, hz, go_sem, part, simV, simG]
theorem ix_sim4 (w : World) : (Instr.index 57 (.agg simV.toArray) (.int .i64 4)).run Tryz.prog w = .ok (.string (S (simG.getD 4 []))) w := by
 have hu := Tryz.underlying57
 have hz := Tryz.sizeOf9
 simp [Instr.index, asIntOf, run_underlying hu, hz, go_sem, part, simV, simG]
theorem ix_sim5 (w : World) : (Instr.index 57 (.agg simV.toArray) (.int .i64 5)).run Tryz.prog w = .ok (.string (S (simG.getD 5 []))) w := by
 have hu := Tryz.underlying57
 have hz := Tryz.sizeOf9
 simp [Instr.index, asIntOf, run_underlying hu, hz, go_sem, part, simV, simG]
set_option maxHeartbeats 1600000 in
set_option maxRecDepth 20000 in
theorem p_sim (c : Nat) (hc : c < 256) (w : World) (hG : TabG 0 w) : Calls Tryz.prog 10 #[.int .u8 (c : Int)] w fun e w' => e = .returned (.string (S (simL c))) ∧ Below w.heap.size w w' := by
 obtain ⟨v, hv⟩ : ∃ v, vI (c : Int) = v := ⟨_, rfl⟩
 have HV := Lib.hid (fun w => p_value (c : Int) v hv (by omega) (by omega) w)
 have HVV := Lib.hid hv
 have HB := Lib.hid (Below.refl w.heap.size w)
 have HG := Lib.hid hG
 clear hv hG
 by_cases h0 : v < 0
 · have HS := Lib.hid (show simL c = [] by unfold simL; rw [if_pos (by rw [HVV.out]; exact h0)])
   go_enter Tryz.func10, Tryz.ntmps10
   go_wp2_with (go_at_call 32; ((with_reducible refine (HV.out _).mono ?_); rintro e w1 ⟨rfl, hw⟩); rw [hw]; clear hw)
   go_ret
   exact ⟨by rw [HS.out]; rfl, HB.out⟩
 ·
  have h1 : 0 ≤ vI (c : Int) := by rw [HVV.out]; omega
  have HNV := Lib.hid h1
  have HEN := Lib.hid (enc_small (vI_range h1))
  have hv0 : (v < 0) = False := by simp; omega
  clear h1 h0
  go_enter Tryz.func10, Tryz.ntmps10
  go_wp2_with (first
   | (go_at_call 32; ((with_reducible refine (HV.out _).mono ?_); rintro e w1 ⟨rfl, hw⟩); rw [hw]; clear hw)
   | ((with_reducible refine at_load_ (d := 8) ?_); refine wpList_load_mid rfl 57 _ rfl 0 0 rfl simV _ HG.out.2 Tryz.underlying57 rfl size_6s ?_))
  obtain ⟨sv, hsv⟩ : ∃ sv : Array Value, simV.toArray = sv := ⟨_, rfl⟩
  rw [hsv]
  have HSV := Lib.hid hsv
  clear hsv
  go_loopw [9] (fun i wr => ∃ (j : Nat), j ≤ 6 ∧ i = .int .i64 (j : Int) ∧ Hid (w = wr ∧ ∀ i, i < j → simB (simG.getD i []) c = false)) (fun i _ => 6 - (intOf i).toNat)
  case atStart => exact ⟨0, by omega, rfl, Lib.hid ⟨rfl, fun i hi => by omega⟩⟩
  case round =>
   obtain ⟨j, hj, rfl, HR⟩ := hrel
   obtain rfl := HR.out.1
   obtain rfl | rfl | rfl | rfl | rfl | rfl | rfl : j = 0 ∨ j = 1 ∨ j = 2 ∨ j = 3 ∨ j = 4 ∨ j = 5 ∨ j = 6 := by omega
   ·
    have hix := ix_sim0 w
    rw [HSV.out] at hix
    obtain ⟨sg, hsg⟩ : ∃ sg, S (simG.getD 0 []) = sg := ⟨_, rfl⟩
    have hib := ib_has (simG.getD 0 []) c hc
    rw [hsg] at hix hib
    obtain ⟨x, hx⟩ : ∃ x, Lib.indexByte sg.data.toList ((c : Int).toNat.toUInt8) = x := ⟨_, rfl⟩
    rw [hx] at hib
    have HI := Lib.hid (fun w => sh_strings_IndexByte sg (c : Int) w)
    rw [hx] at HI
    have HIB := Lib.hid (show _ ∧ _ from ⟨hib, hsg⟩)
    clear hib hsg hx
    by_cases hx0 : 0 ≤ x
    · go_wp2_with (go_at_call 33; ((with_reducible refine (HI.out _).mono ?_); rintro e w9 ⟨rfl, hw⟩); rw [hw]; clear hw)
      go_ret
      rw [sim_at (k := 0) HNV.out (by decide) HR.out.2 (by rw [← HIB.out.1]; simpa using hx0), HIB.out.2]
      exact ⟨rfl, HB.out⟩
    · have hxf : (0 ≤ x) = False := by simp; omega
      have HX0 := Lib.hid hx0
      clear hx0
      go_wp2_with (go_at_call 33; ((with_reducible refine (HI.out _).mono ?_); rintro e w9 ⟨rfl, hw⟩); rw [hw]; clear hw)
      go_roundw
      case rel => exact ⟨1, by omega, rfl, Lib.hid ⟨by first | rfl | trivial, fun i hi => by
       by_cases e : i = 0
       · rw [e, ← HIB.out.1]; simp [hxf]
       · exact HR.out.2 i (by omega)⟩⟩
      case measure => simp [intOf]
   ·
    have hix := ix_sim1 w
    rw [HSV.out] at hix
    obtain ⟨sg, hsg⟩ : ∃ sg, S (simG.getD 1 []) = sg := ⟨_, rfl⟩
    have hib := ib_has (simG.getD 1 []) c hc
    rw [hsg] at hix hib
    obtain ⟨x, hx⟩ : ∃ x, Lib.indexByte sg.data.toList ((c : Int).toNat.toUInt8) = x := ⟨_, rfl⟩
    rw [hx] at hib
    have HI := Lib.hid (fun w => sh_strings_IndexByte sg (c : Int) w)
    rw [hx] at HI
    have HIB := Lib.hid (show _ ∧ _ from ⟨hib, hsg⟩)
    clear hib hsg hx
    by_cases hx0 : 0 ≤ x
    · go_wp2_with (go_at_call 33; ((with_reducible refine (HI.out _).mono ?_); rintro e w9 ⟨rfl, hw⟩); rw [hw]; clear hw)
      go_ret
      rw [sim_at (k := 1) HNV.out (by decide) HR.out.2 (by rw [← HIB.out.1]; simpa using hx0), HIB.out.2]
      exact ⟨rfl, HB.out⟩
    · have hxf : (0 ≤ x) = False := by simp; omega
      have HX0 := Lib.hid hx0
      clear hx0
      go_wp2_with (go_at_call 33; ((with_reducible refine (HI.out _).mono ?_); rintro e w9 ⟨rfl, hw⟩); rw [hw]; clear hw)
      go_roundw
      case rel => exact ⟨2, by omega, rfl, Lib.hid ⟨by first | rfl | trivial, fun i hi => by
       by_cases e : i = 1
       · rw [e, ← HIB.out.1]; simp [hxf]
       · exact HR.out.2 i (by omega)⟩⟩
      case measure => simp [intOf]
   ·
    have hix := ix_sim2 w
    rw [HSV.out] at hix
    obtain ⟨sg, hsg⟩ : ∃ sg, S (simG.getD 2 []) = sg := ⟨_, rfl⟩
    have hib := ib_has (simG.getD 2 []) c hc
    rw [hsg] at hix hib
    obtain ⟨x, hx⟩ : ∃ x, Lib.indexByte sg.data.toList ((c : Int).toNat.toUInt8) = x := ⟨_, rfl⟩
    rw [hx] at hib
    have HI := Lib.hid (fun w => sh_strings_IndexByte sg (c : Int) w)
    rw [hx] at HI
    have HIB := Lib.hid (show _ ∧ _ from ⟨hib, hsg⟩)
    clear hib hsg hx
    by_cases hx0 : 0 ≤ x
    · go_wp2_with (go_at_call 33; ((with_reducible refine (HI.out _).mono ?_); rintro e w9 ⟨rfl, hw⟩); rw [hw]; clear hw)
      go_ret
      rw [sim_at (k := 2) HNV.out (by decide) HR.out.2 (by rw [← HIB.out.1]; simpa using hx0), HIB.out.2]
      exact ⟨rfl, HB.out⟩
    · have hxf : (0 ≤ x) = False := by simp; omega
      have HX0 := Lib.hid hx0
      clear hx0
      go_wp2_with (go_at_call 33; ((with_reducible refine (HI.out _).mono ?_); rintro e w9 ⟨rfl, hw⟩); rw [hw]; clear hw)
      go_roundw
      case rel => exact ⟨3, by omega, rfl, Lib.hid ⟨by first | rfl | trivial, fun i hi => by
       by_cases e : i = 2
       · rw [e, ← HIB.out.1]; simp [hxf]
       · exact HR.out.2 i (by omega)⟩⟩
      case measure => simp [intOf]
   ·
    have hix := ix_sim3 w
    rw [HSV.out] at hix
    obtain ⟨sg, hsg⟩ : ∃ sg, S (simG.getD 3 []) = sg := ⟨_, rfl⟩
    have hib := ib_has (simG.getD 3 []) c hc
    rw [hsg] at hix hib
    obtain ⟨x, hx⟩ : ∃ x, Lib.indexByte sg.data.toList ((c : Int).toNat.toUInt8) = x := ⟨_, rfl⟩
    rw [hx] at hib
    have HI := Lib.hid (fun w => sh_strings_IndexByte sg (c : Int) w)
    rw [hx] at HI
    have HIB := Lib.hid (show _ ∧ _ from ⟨hib, hsg⟩)
    clear hib hsg hx
    by_cases hx0 : 0 ≤ x
    · go_wp2_with (go_at_call 33; ((with_reducible refine (HI.out _).mono ?_); rintro e w9 ⟨rfl, hw⟩); rw [hw]; clear hw)
      go_ret
      rw [sim_at (k := 3) HNV.out (by decide) HR.out.2 (by rw [← HIB.out.1]; simpa using hx0), HIB.out.2]
      exact ⟨rfl, HB.out⟩
    · have hxf : (0 ≤ x) = False := by simp; omega
      have HX0 := Lib.hid hx0
      clear hx0
      go_wp2_with (go_at_call 33; ((with_reducible refine (HI.out _).mono ?_); rintro e w9 ⟨rfl, hw⟩); rw [hw]; clear hw)
      go_roundw
      case rel => exact ⟨4, by omega, rfl, Lib.hid ⟨by first | rfl | trivial, fun i hi => by
       by_cases e : i = 3
       · rw [e, ← HIB.out.1]; simp [hxf]
       · exact HR.out.2 i (by omega)⟩⟩
      case measure => simp [intOf]
   ·
    have hix := ix_sim4 w
    rw [HSV.out] at hix
    obtain ⟨sg, hsg⟩ : ∃ sg, S (simG.getD 4 []) = sg := ⟨_, rfl⟩
    have hib := ib_has (simG.getD 4 []) c hc
    rw [hsg] at hix hib
    obtain ⟨x, hx⟩ : ∃ x, Lib.indexByte sg.data.toList ((c : Int).toNat.toUInt8) = x := ⟨_, rfl⟩
    rw [hx] at hib
    have HI := Lib.hid (fun w => sh_strings_IndexByte sg (c : Int) w)
    rw [hx] at HI
    have HIB := Lib.hid (show _ ∧ _ from ⟨hib, hsg⟩)
    clear hib hsg hx
    by_cases hx0 : 0 ≤ x
    · go_wp2_with (go_at_call 33; ((with_reducible refine (HI.out _).mono ?_); rintro e w9 ⟨rfl, hw⟩); rw [hw]; clear hw)
      go_ret
      rw [sim_at (k := 4) HNV.out (by decide) HR.out.2 (by rw [← HIB.out.1]; simpa using hx0), HIB.out.2]
      exact ⟨rfl, HB.out⟩
    · have hxf : (0 ≤ x) = False := by simp; omega
      have HX0 := Lib.hid hx0
      clear hx0
      go_wp2_with (go_at_call 33; ((with_reducible refine (HI.out _).mono ?_); rintro e w9 ⟨rfl, hw⟩); rw [hw]; clear hw)
      go_roundw
      case rel => exact ⟨5, by omega, rfl, Lib.hid ⟨by first | rfl | trivial, fun i hi => by
       by_cases e : i = 4
       · rw [e, ← HIB.out.1]; simp [hxf]
       · exact HR.out.2 i (by omega)⟩⟩
      case measure => simp [intOf]
   ·
    have hix := ix_sim5 w
    rw [HSV.out] at hix
    obtain ⟨sg, hsg⟩ : ∃ sg, S (simG.getD 5 []) = sg := ⟨_, rfl⟩
    have hib := ib_has (simG.getD 5 []) c hc
    rw [hsg] at hix hib
    obtain ⟨x, hx⟩ : ∃ x, Lib.indexByte sg.data.toList ((c : Int).toNat.toUInt8) = x := ⟨_, rfl⟩
    rw [hx] at hib
    have HI := Lib.hid (fun w => sh_strings_IndexByte sg (c : Int) w)
    rw [hx] at HI
    have HIB := Lib.hid (show _ ∧ _ from ⟨hib, hsg⟩)
    clear hib hsg hx
    by_cases hx0 : 0 ≤ x
    · go_wp2_with (go_at_call 33; ((with_reducible refine (HI.out _).mono ?_); rintro e w9 ⟨rfl, hw⟩); rw [hw]; clear hw)
      go_ret
      rw [sim_at (k := 5) HNV.out (by decide) HR.out.2 (by rw [← HIB.out.1]; simpa using hx0), HIB.out.2]
      exact ⟨rfl, HB.out⟩
    · have hxf : (0 ≤ x) = False := by simp; omega
      have HX0 := Lib.hid hx0
      clear hx0
      go_wp2_with (go_at_call 33; ((with_reducible refine (HI.out _).mono ?_); rintro e w9 ⟨rfl, hw⟩); rw [hw]; clear hw)
      go_roundw
      case rel => exact ⟨6, by omega, rfl, Lib.hid ⟨by first | rfl | trivial, fun i hi => by
       by_cases e : i = 5
       · rw [e, ← HIB.out.1]; simp [hxf]
       · exact HR.out.2 i (by omega)⟩⟩
      case measure => simp [intOf]
   · have hen := HEN.out
     have hc2 : IntKind.i32.wrap (c : Int) = (c : Int) := by rw [IntKind.wrap_i32]; omega
     go_wp2
     go_ret
     rw [sim_no HNV.out HR.out.2]
     exact ⟨by first | rfl | simp [*], HB.out⟩
theorem TabG.at_ {g : Nat} {w : World} (h : TabG g w) {j : Nat} (hj : j < 6) : w.cell? ⟨g, j, none⟩ = some (.string (S (simG.getD j []))) := by
 have := h.2 j (.string (S (simG.getD j []))) (by
  obtain rfl | rfl | rfl | rfl | rfl | rfl : j = 0 ∨ j = 1 ∨ j = 2 ∨ j = 3 ∨ j = 4 ∨ j = 5 := by omega
  all_goals rfl)
 rwa [Nat.zero_add] at this
theorem has_len {j : Nat} (hj : j < 6) : (simG.getD j []).length ≤ 4 := by
 obtain rfl | rfl | rfl | rfl | rfl | rfl : j = 0 ∨ j = 1 ∨ j = 2 ∨ j = 3 ∨ j = 4 ∨ j = 5 := by omega
 all_goals decide
theorem has_no {x : List UInt8} {c : Nat} (h : ∀ k, k < x.length → (x.getD k 0).toNat ≠ c) : simB x c = false := by
 unfold simB
 rw [List.any_eq_false]
 intro b hb
 obtain ⟨k, hk, rfl⟩ := List.getElem_of_mem hb
 have := h k hk
 rw [List.getD_eq_getElem?_getD, List.getElem?_eq_getElem hk, Option.getD_some] at this
 simpa using this
theorem has_yes {x : List UInt8} {c k : Nat} (hk : k < x.length) (h : (x.getD k 0).toNat = c) : simB x c = true := by
 unfold simB
 rw [List.any_eq_true]
 refine ⟨x[k], List.getElem_mem hk, ?_⟩
 rw [List.getD_eq_getElem?_getD, List.getElem?_eq_getElem hk, Option.getD_some] at h
 simpa using h
set_option maxHeartbeats 1600000 in
set_option maxRecDepth 20000 in
theorem r_sim (c : Nat) (hc : c < 256) (w : World) (hG : TabG 1 w) : Calls Tryz.prog 12 #[.int .u8 (c : Int)] w fun e w' => e = .returned (.string (S (simL c))) ∧ Below w.heap.size w w' := by
 obtain ⟨v, hv⟩ : ∃ v, vI (c : Int) = v := ⟨_, rfl⟩
 have HV := Lib.hid (fun w => r_value (c : Int) v hv (by omega) (by omega) w)
 have HVV := Lib.hid hv
 have HB := Lib.hid (Below.refl w.heap.size w)
 have HG := Lib.hid hG
 have HC := Lib.hid hc
 clear hv hG
 by_cases h0 : v < 0
 · have HS := Lib.hid (show simL c = [] by unfold simL; rw [if_pos (by rw [HVV.out]; exact h0)])
   go_enter Tryz.func12, Tryz.ntmps12
   go_wp2_with (go_at_call 34; ((with_reducible refine (HV.out _).mono ?_); rintro e w1 ⟨rfl, hw⟩); rw [hw]; clear hw)
   go_ret
   exact ⟨by rw [HS.out]; rfl, HB.out⟩
 ·
  have h1 : 0 ≤ vI (c : Int) := by rw [HVV.out]; omega
  have HNV := Lib.hid h1
  have hv0 : (v < 0) = False := by simp; omega
  clear h1 h0
  go_enter Tryz.func12, Tryz.ntmps12
  go_wp2_with (go_at_call 34; ((with_reducible refine (HV.out _).mono ?_); rintro e w1 ⟨rfl, hw⟩); rw [hw]; clear hw)
  go_loopw [3] (fun i wr => ∃ (j : Nat), j ≤ 6 ∧ i = .int .i64 (j : Int) ∧ Hid (w = wr ∧ ∀ i, i < j → simB (simG.getD i []) c = false)) (fun i _ => 6 - (intOf i).toNat)
  case atStart => exact ⟨0, by omega, rfl, Lib.hid ⟨rfl, fun i hi => by omega⟩⟩
  case round =>
   obtain ⟨j, hj, rfl, HR⟩ := hrel
   obtain rfl := HR.out.1
   by_cases hlt : j < 6
   ·
    have hj0 : (j : Int) < 6 := by omega
    have hwj : wrap64 ((j : Int) + 1) = (j : Int) + 1 := by simp [wrap64]; omega
    have hcl := HG.out.at_ hlt
    have hln := has_len hlt
    obtain ⟨x, hx⟩ : ∃ x, simG.getD j [] = x := ⟨_, rfl⟩
    rw [hx] at hcl hln
    obtain ⟨sx, hsx⟩ : ∃ sx, S x = sx := ⟨_, rfl⟩
    obtain ⟨n, hn⟩ : ∃ n, x.length = n := ⟨_, rfl⟩
    rw [hn] at hln
    have hsz : (sx.size : Int) = (n : Int) := by rw [← hsx, S_size, hn]
    have hsz2 : sx.size = n := by omega
    have HIX : Hid (∀ k, k < n → ∀ w, (Instr.index 9 (.string sx) (.int .i64 (k : Int))).run Tryz.prog w = .ok (.int .u8 ((x.getD k 0).toNat : Int)) w) := Lib.hid (by rw [← hsx, ← hn]; exact fun k hk w => str_byte x k hk w)
    rw [hsx] at hcl
    have HCL := Lib.hid hcl
    have HX := Lib.hid (show _ ∧ _ ∧ _ from ⟨hx, hsx, hn⟩)
    clear hcl hx hsx hn
    go_wp2
    go_loopw [4] (fun i wr => ∃ (k : Nat), k ≤ n ∧ i = .int .i64 (k : Int) ∧ Hid (w = wr ∧ ∀ i, i < k → (x.getD i 0).toNat ≠ c)) (fun i _ => n - (intOf i).toNat)
    case atStart => exact ⟨0, by omega, rfl, Lib.hid ⟨rfl, fun i hi => by omega⟩⟩
    case round =>
     obtain ⟨k, hk, rfl, HK⟩ := hrel
     obtain rfl := HK.out.1
     by_cases hlk : k < n
     ·
      have hk0 : (k : Int) < (n : Int) := by omega
      have hwk : wrap64 ((k : Int) + 1) = (k : Int) + 1 := by simp [wrap64]; omega
      have hix := HIX.out k hlk w
      obtain ⟨b, hb⟩ : ∃ b, (x.getD k 0).toNat = b := ⟨_, rfl⟩
      rw [hb] at hix
      have HBB := Lib.hid hb
      clear hb
      by_cases hbc : b = c
      · have HE := Lib.hid hbc
        have hbi : (b : Int) = (c : Int) := by omega
        clear hbc
        go_wp2_with (first
         | ((with_reducible refine at_load_ (d := 15) ?_); refine wpList_load_c rfl _ _ rfl 1 j rfl _ HCL.out (fun w => by kernel_rfl) ?_)
         | ((with_reducible refine at_load_ (d := 22) ?_); refine wpList_load_c rfl _ _ rfl 1 j rfl _ HCL.out (fun w => by kernel_rfl) ?_)
         | ((with_reducible refine at_load_ (d := 29) ?_); refine wpList_load_c rfl _ _ rfl 1 j rfl _ HCL.out (fun w => by kernel_rfl) ?_))
        go_ret
        rw [sim_at HNV.out hlt HR.out.2 (by rw [HX.out.1]; exact has_yes (by rw [HX.out.2.2]; exact hlk) (by rw [HBB.out, HE.out])), HX.out.1, HX.out.2.1]
        exact ⟨rfl, HB.out⟩
      · have HE := Lib.hid hbc
        have hbi : ¬ ((b : Int) = (c : Int)) := by omega
        have hbn : (b = c) = False := by simpa using hbc
        clear hbc
        go_wp2_with (first
         | ((with_reducible refine at_load_ (d := 15) ?_); refine wpList_load_c rfl _ _ rfl 1 j rfl _ HCL.out (fun w => by kernel_rfl) ?_)
         | ((with_reducible refine at_load_ (d := 22) ?_); refine wpList_load_c rfl _ _ rfl 1 j rfl _ HCL.out (fun w => by kernel_rfl) ?_))
        go_roundw
        case rel => exact ⟨k + 1, by omega, by go_num, Lib.hid ⟨by first | rfl | trivial, fun i hi => by
         by_cases e : i = k
         · rw [e, HBB.out]; exact HE.out
         · exact HK.out.2 i (by omega)⟩⟩
        case measure => simp [intOf]; omega
     · obtain rfl : k = n := by omega
       go_wp2_with (first
        | ((with_reducible refine at_load_ (d := 15) ?_); refine wpList_load_c rfl _ _ rfl 1 j rfl _ HCL.out (fun w => by kernel_rfl) ?_))
       go_roundw
       case rel => exact ⟨j + 1, by omega, by go_num, Lib.hid ⟨by first | rfl | trivial, fun i hi => by
        by_cases e : i = j
        · rw [e, HX.out.1]; exact has_no (by rw [HX.out.2.2]; exact HK.out.2)
        · exact HR.out.2 i (by omega)⟩⟩
       case measure => simp [intOf]; omega
   · obtain rfl : j = 6 := by omega
     have hcv := run_conv (w.alloc (.cells #[.int .u8 (c : Int)] 5)) (w.heap.size + 1) (some ⟨w.heap.size, 0, none⟩) [UInt8.ofNat c] (.inr ⟨w.heap.size, 0, rfl, by omega, fun k hk => by
      have hk0 : k = 0 := by simp [Us] at hk; omega
      subst hk0
      rw [Nat.zero_add, cell_alloc1]
      simp [Us, U]; omega⟩) 1 1 rfl
     have hu8 : IntKind.u8.wrap (c : Int) = (c : Int) := by rw [IntKind.wrap_u8]; omega
     go_wp2
     go_ret
     rw [sim_no HNV.out HR.out.2]
     exact ⟨by first | rfl | simp [*], (Below.refl _ w).alloc (Nat.le_refl _) _⟩
def shL (ls : List (List UInt8)) : List (List (List UInt8)) := ls.map fun l => l.map fun b => [b]
theorem shL_len (ls : List (List UInt8)) : (shL ls).length = ls.length := by simp [shL]
theorem shL_get (ls : List (List UInt8)) {i : Nat} (h : i < ls.length) : (shL ls).getD i [] = (ls.getD i []).map fun b => [b] := by simp [shL, List.getD, h]
def InnR (w : World) (base : Nat) (vs : List Value) (Ls : List (List (List UInt8))) : Prop :=
 vs.length = Ls.length ∧ (∀ (i : Nat) (r : List (List UInt8)), Ls[i]? = some r → ∃ (A : Option Addr) (c : Nat), vs[i]? = some (Value.slice A r.length c) ∧ w.ownsRow base 9 1 (.slice A r.length c) r.length (strV r)) ∧
  ∀ (i j : Nat) (u v : Value), vs[i]? = some u → vs[j]? = some v → i ≠ j → u.ownBlock = none ∨ u.ownBlock ≠ v.ownBlock
theorem InnR.nil_ {w : World} {base : Nat} : InnR w base [] [] := ⟨rfl, fun i r h => by simp at h, fun i j u v h => by simp at h⟩
theorem InnR.keep {w w' : World} {base : Nat} {vs : List Value} {Ls : List (List (List UInt8))} {row : Option Nat} (h : InnR w base vs Ls) (hg : w.grownBy w' row) (hr : ∀ u ∈ vs, u.ownBlock = none ∨ u.ownBlock ≠ row) : InnR w' base vs Ls :=
 ⟨h.1, fun i r hi => by
  obtain ⟨A, c, h1, h2⟩ := h.2.1 i r hi
  exact ⟨A, c, h1, h2.kept hg (hr _ (List.mem_of_getElem? h1))⟩, h.2.2⟩
theorem one_str (s : ByteArray) : ∀ u ∈ [Value.string s], u.oneCell' = true := by
 intro u hu
 obtain rfl : u = .string s := by simpa using hu
 rfl
theorem one_sl (A : Option Addr) (n c : Nat) : ∀ u ∈ [Value.slice A n c], u.oneCell' = true := by
 intro u hu
 obtain rfl : u = .slice A n c := by simpa using hu
 rfl
theorem info_st : (Tryz.prog.info? 9).map (fun i => (i.zero, i.size, i.bytes)) = some (some (.string ⟨#[]⟩), 1, 16) := by kernel_rfl
theorem info_ss : (Tryz.prog.info? 25).map (fun i => (i.zero, i.size, i.bytes)) = some (some nilS, 1, 24) := by kernel_rfl
theorem ext_one (x : List UInt8) (k : Nat) (hk : k < x.length) : (S x).extract k (k + 1) = S [x.getD k 0] := by
 apply ByteArray.ext
 simp only [S, ByteArray.data_extract]
 apply Array.ext'
 simp only [Array.toList_extract, List.getD_eq_getElem?_getD]
 rw [List.extract_eq_take_drop, show k + 1 - k = 1 by omega, List.drop_eq_getElem_cons hk, List.take_succ_cons, List.take_zero]
 simp [hk]
theorem slice_one (x : List UInt8) (k : Nat) (hk : k < x.length) (w : World) : (Instr.sliceAt 9 (.string (S x)) (some (.int .i64 (k : Int))) (some (.int .i64 ((k + 1 : Nat) : Int))) none).run Tryz.prog w = .ok (.string (S [x.getD k 0])) w := by
 have h := sl_lh (S x) k (k + 1) (by omega) (by rw [S_size]; omega) w
 rw [ext_one x k hk] at h
 exact h
theorem at_any_ {P : Program} {ops : Array Oper} {rest : List Oper} {a : Act} {w : World} {Q : Exit → Act → World → Prop} {d : Nat} {op : Op} {t : TypeId} {ps : String} {af : Array Edge} {gd : Option (Nat × Bool)} (h : wpList P ops Q (⟨some d, op, t, ps, af, gd⟩ :: rest) a w) : wpList P ops Q (⟨some d, op, t, ps, af, gd⟩ :: rest) a w := h
theorem add_k1 (k : Nat) (h2 : k ≤ 1000000) (x y : Operand) (w : World) : (do eqGuard .add 3 x y (.int .i64 (k : Int)) (.int .i64 1); binOp .add 3 (.int .i64 (k : Int)) (.int .i64 1)).run Tryz.prog w = .ok (.int .i64 ((k + 1 : Nat) : Int)) w := by
 have h3 : IntKind.i64.wrap ((k : Int) + 1) = ((k + 1 : Nat) : Int) := by rw [show ((k : Int) + 1) = ((k + 1 : Nat) : Int) by omega]; exact wrap_small _ (by omega) (by omega)
 simp [eqGuard, binOp, go_sem, h3]
theorem wpList_add1 {ops : Array Oper} {rest : List Oper} {o : Oper} {a : Act} {w : World} {Q : Exit → Act → World → Prop} (hgd : o.guard = none) (T2 : TypeId) (x y : Operand) (ho : o.op = .binOp .add 3 x y T2) (k : Nat) (hx : a.eval x = .int .i64 (k : Int)) (hy : a.eval y = .int .i64 1) (hk : k ≤ 1000000)
 (hK : wpList Tryz.prog ops Q rest (a.put o.dst (.int .i64 ((k + 1 : Nat) : Int))) w) : wpList Tryz.prog ops Q (o :: rest) a w := wpList_plain hgd fun K hK2 => o_add _ _ x y ho hx hy (add_k1 k hk x y w) (hK2 _ _ hK)
theorem at_slice_ {P : Program} {ops : Array Oper} {rest : List Oper} {a : Act} {w : World} {Q : Exit → Act → World → Prop} {d : Nat} {x : Operand} {lo hi mx : Option Operand} {ty t : TypeId} {ps : String} {af : Array Edge} {gd : Option (Nat × Bool)} (h : wpList P ops Q (⟨some d, .slice ty x lo hi mx, t, ps, af, gd⟩ :: rest) a w) : wpList P ops Q (⟨some d, .slice ty x lo hi mx, t, ps, af, gd⟩ :: rest) a w := h
theorem wpList_sl {P : Program} {ops : Array Oper} {rest : List Oper} {o : Oper} {a : Act} {w : World} {Q : Exit → Act → World → Prop} (hgd : o.guard = none) (T : TypeId) (x : Operand) (lo hi mx : Option Operand) (ho : o.op = .slice T x lo hi mx) {v vx : Value} {l h m : Option Value} (hx : a.eval x = vx) (hl : lo.map a.eval = l) (hh : hi.map a.eval = h) (hm : mx.map a.eval = m) (hr : (Instr.sliceAt T vx l h m).run P w = .ok v w)
 (hK : wpList P ops Q rest (a.put o.dst v) w) : wpList P ops Q (o :: rest) a w := wpList_plain hgd fun K hK2 => o_sl T x lo hi mx ho hx hl hh hm hr (hK2 _ _ hK)
theorem ownR_apart {w : World} {base base' : Nat} {e e' : TypeId} {v v' : Value} {n n' : Nat} {xs xs' : List Value} (h : w.ownsRow base e 1 v n xs) (h' : w.ownsRow base' e' 1 v' n' xs') (hne : e ≠ e') :
 v.ownBlock = none ∨ v.ownBlock ≠ v'.ownBlock := by
 rcases h.2 with ⟨rfl, _⟩ | ⟨g, cap, cur, rfl, _, hh, _⟩
 · left; rfl
 · right
   rcases h'.2 with ⟨rfl, _⟩ | ⟨g', cap', cur', rfl, _, hh', _⟩
   · simp [Value.ownBlock]
   · intro he
     have : g = g' := by simpa [Value.ownBlock] using he
     subst this
     rw [hh] at hh'
     injection hh' with hh'
     injection hh' with _ ht
     exact hne ht
theorem none_or (u : Value) : u.ownBlock = none ∨ u.ownBlock ≠ none := by
 rcases u.ownBlock with _ | g
 · exact .inl rfl
 · exact .inr (by simp)
theorem own_base {w : World} {B b : Nat} {e : TypeId} {v : Value} {n : Nat} {xs : List Value} (h : w.ownsRow B e 1 v n xs) (hb : b ≤ B) : w.ownsRow b e 1 v n xs := by
 refine ⟨h.1, h.2.imp id ?_⟩
 rintro ⟨g, cap, cur, h1, h2, h3⟩
 exact ⟨g, cap, cur, h1, Nat.le_trans hb h2, h3⟩
theorem InnR.bound {w : World} {base : Nat} {vs : List Value} {Ls : List (List (List UInt8))} (h : InnR w base vs Ls) : ∀ u ∈ vs, ∀ g, u.ownBlock = some g → g < w.heap.size := by
 intro u hu g hg
 obtain ⟨i, hi⟩ := List.getElem?_of_mem hu
 have hlt : i < Ls.length := by
  have := (List.getElem?_eq_some_iff.1 hi).1
  rw [h.1] at this; exact this
 obtain ⟨A, c, h1, h2⟩ := h.2.1 i Ls[i] (List.getElem?_eq_getElem hlt)
 rw [hi] at h1
 injection h1 with h1
 subst h1
 exact (h2.lt g hg).2
theorem InnR.snoc {w : World} {base : Nat} {vs : List Value} {Ls : List (List (List UInt8))} {A : Option Addr} {c : Nat} {r : List (List UInt8)} (h : InnR w base vs Ls) (hs : w.ownsRow base 9 1 (.slice A r.length c) r.length (strV r)) (hd : ∀ u ∈ vs, ∀ g, u.ownBlock = some g → (Value.slice A r.length c).ownBlock ≠ some g) :
 InnR w base (vs ++ [Value.slice A r.length c]) (Ls ++ [r]) := by
 refine ⟨by simp [h.1], fun i l' hl => ?_, fun i j u v hu hv hne => ?_⟩
 ·
  rw [List.getElem?_append] at hl ⊢
  rw [h.1]
  split at hl
  · rename_i hlt
    rw [if_pos hlt]
    exact h.2.1 i l' hl
  · rename_i hlt
    rw [if_neg hlt]
    have h0 : i - Ls.length = 0 := by
     have := (List.getElem?_eq_some_iff.1 hl).1
     simpa using this
    rw [h0] at hl ⊢
    simp at hl
    subst hl
    exact ⟨A, c, by simp, hs⟩
 ·
  rcases hub : u.ownBlock with _ | g
  · exact .inl rfl
  ·
   refine .inr fun e => ?_
   rw [List.getElem?_append] at hu hv
   split at hu <;> split at hv
   · rcases h.2.2 i j u v hu hv hne with h1 | h1
     · rw [hub] at h1; cases h1
     · exact h1 (hub.trans e)
   · have hv2 : v = .slice A r.length c := by
      have := (List.getElem?_eq_some_iff.1 hv)
      obtain ⟨h1, h2⟩ := this
      have h0 : j - vs.length = 0 := by simpa using h1
      simp [h0] at h2; exact h2.symm
     subst hv2
     exact hd u (List.mem_of_getElem? hu) g hub e.symm
   · have hu2 : u = .slice A r.length c := by
      have := (List.getElem?_eq_some_iff.1 hu)
      obtain ⟨h1, h2⟩ := this
      have h0 : i - vs.length = 0 := by simpa using h1
      simp [h0] at h2; exact h2.symm
     subst hu2
     exact hd v (List.mem_of_getElem? hv) g e.symm hub
   · rename_i a b
     have h1 := (List.getElem?_eq_some_iff.1 hu).1
     have h2 := (List.getElem?_eq_some_iff.1 hv).1
     simp at h1 h2
     omega
set_option maxHeartbeats 1000000 in
set_option maxRecDepth 20000 in
theorem r_sharp (ls : List (List UInt8)) (A : Option Addr) (n c : Nat) (hn : ls.length = n) (hn3 : n ≤ 3) (hl : ∀ i, i < n → (ls.getD i []).length ≤ 64) (w : World) (hs : Strs w A ls) :
 Calls Tryz.prog 29 #[.slice A n c] w fun e w' => ∃ A' c' vs, e = .returned (.slice A' n c') ∧ w'.ownsRow w.heap.size 25 1 (.slice A' n c') n vs ∧ InnR w' w.heap.size vs (shL ls) ∧ Below w.heap.size w w' := by
 obtain ⟨i0, hi, hz0, hz1, hz2⟩ := info_parts info_st
 obtain ⟨i1, hj1, hj2, hj3, hj4⟩ := info_parts info_ss
 have HS := Lib.hid hs
 have HN := Lib.hid (show _ ∧ _ from ⟨hn, hl⟩)
 clear hs hn hl
 go_enter Tryz.func29, Tryz.ntmps29
 go_wp2
 go_loopw [4, 3] (fun i v wr => ∃ (j : Nat) (A' : Option Addr) (c' : Nat), j ≤ n ∧ i = .int .i64 (j : Int) ∧ v = .slice A' j c' ∧ Hid (∃ vs, wr.ownsRow w.heap.size 25 1 (.slice A' j c') j vs ∧ InnR wr w.heap.size vs ((shL ls).take j) ∧ Below w.heap.size w wr)) (fun i _ _ => n - (intOf i).toNat)
 case atStart => exact ⟨0, none, 0, by omega, rfl, rfl, Lib.hid ⟨[], World.ownsRow_nil w _ _ 1, InnR.nil_, Below.refl _ _⟩⟩
 case round =>
  obtain ⟨j, A1, c1, hj, rfl, rfl, HH⟩ := hrel
  by_cases hlt : j < n
  ·
   have hj0 : (j : Int) < (n : Int) := by omega
   have hjl : j < ls.length := by rw [HN.out.1]; exact hlt
   have hl64 := HN.out.2 j hlt
   obtain ⟨vs, ho, hin, hb⟩ := HH.out
   obtain ⟨b1, o1, rfl, hc1⟩ := (Strs.on HS.out hb).cell1 (i := j) hjl
   have hbl := (HS.out.cell (by omega))
   obtain ⟨b1', o1', e1, hbl, hcc⟩ := hbl
   injection e1 with e1
   injection e1 with e1 e2
   subst e1 e2
   have hcc := hcc j hjl
   obtain ⟨x, hx⟩ : ∃ x, ls.getD j [] = x := ⟨_, rfl⟩
   rw [hx] at hc1 hl64 hcc
   obtain ⟨sx, hsx⟩ : ∃ sx, S x = sx := ⟨_, rfl⟩
   obtain ⟨ln, hln⟩ : ∃ ln, x.length = ln := ⟨_, rfl⟩
   rw [hln] at hl64
   have hsz : (sx.size : Int) = (ln : Int) := by rw [← hsx, S_size, hln]
   have hsz2 : sx.size = ln := by omega
   have HSL : Hid (∀ k, k < ln → ∀ w, (Instr.sliceAt 9 (.string sx) (some (.int .i64 (k : Int))) (some (.int .i64 ((k + 1 : Nat) : Int))) none).run Tryz.prog w = .ok (.string (S [x.getD k 0])) w) := Lib.hid (by rw [← hsx, ← hln]; exact fun k hk w => slice_one x k hk w)
   rw [hsx] at hc1 hcc
   obtain ⟨B, hB⟩ : ∃ B, wr.heap.size = B := ⟨_, rfl⟩
   have HCC := Lib.hid (show _ ∧ _ from ⟨hcc, hbl⟩)
   have HX := Lib.hid (show _ ∧ _ ∧ _ from ⟨hx, hsx, hln⟩)
   have HB := Lib.hid (show (∀ u ∈ vs, ∀ g, u.ownBlock = some g → g < B) ∧ w.heap.size ≤ B from ⟨by rw [← hB]; exact hin.bound, by rw [← hB]; exact hb.size⟩)
   have H0 := Lib.hid (show _ ∧ _ ∧ _ from ⟨ho, hin, hb⟩)
   clear HH ho hin hb hc1 hcc hx hsx hln hbl
   go_wp2
   go_loopw [6, 5] (fun i u wq => ∃ (k : Nat) (A2 : Option Addr) (c2 : Nat), k ≤ ln ∧ i = .int .i64 (k : Int) ∧ u = .slice A2 k c2 ∧ Hid (wq.ownsRow B 9 1 (.slice A2 k c2) k (strV ((x.map fun b => [b]).take k)) ∧ wq.ownsRow w.heap.size 25 1 (.slice A1 j c1) j vs ∧ InnR wq w.heap.size vs ((shL ls).take j) ∧ Below w.heap.size w wq ∧ B ≤ wq.heap.size)) (fun i _ _ => ln - (intOf i).toNat)
   case atStart => exact ⟨0, none, 0, by omega, rfl, rfl, Lib.hid ⟨World.ownsRow_nil wr _ _ 1, H0.out.1, H0.out.2.1, H0.out.2.2, by omega⟩⟩
   case round =>
    clear H0
    obtain ⟨k, A2, c2, hk, rfl, rfl, HK⟩ := hrel
    by_cases hlk : k < ln
    ·
     have hk0 : (k : Int) < (ln : Int) := by omega
     have hsl := HSL.out k hlk
     obtain ⟨s1, hs1⟩ : ∃ s1, S [x.getD k 0] = s1 := ⟨_, rfl⟩
     rw [hs1] at hsl
     have HS1 := Lib.hid hs1
     have HSS := Lib.hid hsl
     clear hs1 hsl
     go_wp2_with (first
      | ((with_reducible refine at_load_ (d := 17) ?_); refine wpList_load_c rfl _ _ rfl b1 (o1 + j) rfl _ ((HK.out.2.2.2.1.cell (p := ⟨b1, o1 + j, none⟩) HCC.out.2).trans HCC.out.1) (fun w => by kernel_rfl) ?_)
      | ((with_reducible refine at_load_ (d := 26) ?_); refine wpList_load_c rfl _ _ rfl b1 (o1 + j) rfl _ ((HK.out.2.2.2.1.cell (p := ⟨b1, o1 + j, none⟩) HCC.out.2).trans HCC.out.1) (fun w => by kernel_rfl) ?_)
      | ((with_reducible refine at_any_ (d := 29) ?_); refine wpList_add1 rfl _ _ _ rfl k rfl rfl (by omega) ?_)
      | ((with_reducible refine at_any_ (d := 21) ?_); refine wpList_add1 rfl _ _ _ rfl k rfl rfl (by omega) ?_)
      | ((with_reducible refine at_slice_ (d := 30) ?_); refine wpList_sl rfl _ _ _ _ _ rfl (v := .string s1) rfl rfl rfl rfl (HSS.out _) ?_)
      | ((with_reducible refine at_call_ (d := 32) ?_); (refine wpList_append_own _ rfl (.tmp 22) (.tmp 31) 25 rfl B 9 i0 (.string ⟨#[]⟩) 1 16 Tryz.underlying25 hi hz0 hz1 hz2 rfl (by decide) (.slice A2 k c2) k _ rfl (HK.out.1.alloc _) ⟨_, 0, none⟩ 1 1 [_] rfl rfl (news_of_one _ _ _) (one_str _) (by unfold maxLen; omega) (by omega) (by have := HK.out.2.2.2.2; simp; omega) ?_; intro v3 w3 ho3 hg3 _; obtain ⟨A3, c3, rfl⟩ := own_len ho3; have HR := Lib.hid (show _ ∧ _ from ⟨ho3, hg3⟩); clear ho3 hg3)))
     go_roundw
     case rel =>
      obtain ⟨h1, h2⟩ := HR.out
      obtain ⟨q1, q2, q3, q4, q5⟩ := HK.out
      have hbu : ∀ g, (Value.slice A2 k c2).ownBlock = some g → B ≤ g := fun g e => (q1.lt g e).1
      refine ⟨k + 1, A3, c3, by omega, by first | rfl | go_num, rfl, Lib.hid ⟨?_, ?_, ?_, ?_, Nat.le_trans (by simp; omega) h2.size⟩⟩
      · have hkx : k < (x.map fun b => [b]).length := by rw [List.length_map, HX.out.2.2]; exact hlk
        have e : (x.map fun b => [b]).take (k + 1) = (x.map fun b => [b]).take k ++ [[x.getD k 0]] := by
         rw [List.take_add_one, List.getElem?_eq_getElem hkx]
         simp [List.getD, show k < x.length by rw [HX.out.2.2]; exact hlk]
        rw [e]
        have e2 : strV ((x.map fun b => [b]).take k ++ [[x.getD k 0]]) = strV ((x.map fun b => [b]).take k) ++ [Value.string (S [x.getD k 0])] := by simp [strV]
        rw [e2, HS1.out]
        exact h1
      · exact (q2.alloc _).kept h2 (ownR_apart q2 q1 (by decide))
      · refine (q3.keep (World.grownBy_alloc _ _ none) (fun u _ => none_or u)).keep h2 (fun u hu => ?_)
        rcases hub : u.ownBlock with _ | g
        · exact .inl rfl
        · refine .inr fun e => ?_
          have := HB.out.1 u hu g hub
          have := hbu g e.symm
          omega
      · exact (q4.alloc q4.size _).grown h2 (by have := q4.size; simp; omega) (fun k' e => Nat.le_trans HB.out.2 (hbu k' e))
     case measure => simp [intOf]; omega
    ·
     obtain rfl : k = ln := by omega
     go_wp2_with (first
      | ((with_reducible refine at_load_ (d := 17) ?_); refine wpList_load_c rfl _ _ rfl b1 (o1 + j) rfl _ ((HK.out.2.2.2.1.cell (p := ⟨b1, o1 + j, none⟩) HCC.out.2).trans HCC.out.1) (fun w => by kernel_rfl) ?_)
      | ((with_reducible refine at_any_ (d := 12) ?_); refine wpList_add1 rfl _ _ _ rfl j rfl rfl (by omega) ?_)
      | ((with_reducible refine at_call_ (d := 36) ?_); (refine wpList_append_own _ rfl (.tmp 33) (.tmp 35) 27 rfl w.heap.size 25 i1 nilS 1 24 Tryz.underlying27 hj1 hj2 hj3 hj4 rfl (by decide) (.slice A1 j c1) j _ rfl (HK.out.2.1.alloc _) ⟨_, 0, none⟩ 1 1 [_] rfl rfl (news_of_one _ _ _) (one_sl _ _ _) (by unfold maxLen; omega) (by omega) (by have := HK.out.2.2.2.1.size; simp; omega) ?_; intro v3 w3 ho3 hg3 _; obtain ⟨A3, c3, rfl⟩ := own_len ho3; have HR := Lib.hid (show _ ∧ _ from ⟨ho3, hg3⟩); clear ho3 hg3)))
     go_roundw
     case rel =>
      obtain ⟨h1, h2⟩ := HR.out
      obtain ⟨q1, q2, q3, q4, q5⟩ := HK.out
      have hxl : (x.map fun b => [b]).length = k := by rw [List.length_map, HX.out.2.2]
      rw [List.take_of_length_le (by rw [hxl]; exact Nat.le_refl _)] at q1
      have hin := q3.snoc (A := A2) (c := c2) (r := x.map fun b => [b]) (by rw [hxl]; exact own_base q1 HB.out.2) (fun u hu g e e2 => by
       have := HB.out.1 u hu g e
       have := (q1.lt g (by rw [hxl] at e2; exact e2)).1
       omega)
      refine ⟨j + 1, A3, c3, by omega, by first | rfl | go_num, rfl, Lib.hid ⟨vs ++ [Value.slice A2 k c2], h1, ?_, ?_⟩⟩
      ·
       have e : (shL ls).take (j + 1) = (shL ls).take j ++ [x.map fun b => [b]] := by
        rw [List.take_add_one, List.getElem?_eq_getElem (by rw [shL_len, HN.out.1]; exact hlt)]
        congr 1
        have := shL_get ls (i := j) (by rw [HN.out.1]; exact hlt)
        rw [HX.out.1, List.getD_eq_getElem?_getD, List.getElem?_eq_getElem (by rw [shL_len, HN.out.1]; exact hlt), Option.getD_some] at this
        rw [this]; rfl
       rw [e, ← hxl]
       refine (hin.keep (World.grownBy_alloc _ _ none) (fun u _ => none_or u)).keep h2 (fun u hu => ?_)
       obtain ⟨i, hi⟩ := List.getElem?_of_mem hu
       have hlt2 : i < ((shL ls).take j ++ [x.map fun b => [b]]).length := by rw [← hin.1]; exact (List.getElem?_eq_some_iff.1 hi).1
       obtain ⟨A', c', g1, g2⟩ := hin.2.1 i _ (List.getElem?_eq_getElem hlt2)
       rw [hi] at g1
       injection g1 with g1
       subst g1
       exact ownR_apart g2 q2 (by decide)
      · exact (q4.alloc q4.size _).grown h2 (by have := q4.size; simp; omega) (fun k' e => (q2.lt k' e).1)
     case measure => simp [intOf]; omega
  · obtain rfl : j = n := by omega
    go_wp2
    go_ret
    obtain ⟨vs, h1, h2, h3⟩ := HH.out
    rw [List.take_of_length_le (by rw [shL_len, HN.out.1]; exact Nat.le_refl _)] at h2
    exact ⟨_, _, vs, rfl, h1, h2, h3⟩
def smpL : List (List UInt8) := [[80, 60, 85, 84, 79, 69, 82, 73, 75, 83, 83, 79, 78, 60, 60, 65, 78, 78, 65, 60, 77, 65, 82, 73, 65, 60, 60, 60, 60, 60, 60, 60, 60, 60, 60, 60, 60, 60, 60, 60, 60, 60, 60, 60], [76, 56, 57, 56, 57, 48, 50, 67, 60, 51, 85, 84, 79, 54, 57, 48, 56, 48, 54, 49, 70, 57, 52, 48, 54, 50, 51, 54, 90, 69, 49, 56, 52, 50, 50, 54, 66, 60, 60, 60, 60, 60, 49, 52]]
theorem p_sample (w : World) : Calls Tryz.prog 30 #[] w fun e w' => ∃ A, e = .returned (.slice A 2 2) ∧ Strs w' A smpL ∧ Below w.heap.size w w' := by
 go_enter Tryz.func30, Tryz.ntmps30
 go_wp2
 go_ret
 refine ⟨_, rfl, Sees.of_own (base := w.heap.size) (e := 9) (n := 2) (c := 2) ⟨rfl, .inr ⟨w.heap.size, 2, _, rfl, Nat.le_refl _, heap_alloc_new w _, by decide, by decide, rfl, rfl⟩⟩, (Below.refl _ w).alloc (Nat.le_refl _) _⟩
theorem rdg_of_own {w : World} {base n c : Nat} {A : Option Addr} {vs : List Value} {L : List (List (List UInt8))} (h : w.ownsRow base 25 1 (.slice A n c) n vs) (hi : InnR w base vs L) : Rdg w A L :=
 ⟨vs, Sees.of_own h, hi.1, fun i r hr => by
  obtain ⟨A', c', h1, h2⟩ := hi.2.1 i r hr
  exact ⟨A', c', h1, Sees.of_own h2⟩⟩
theorem smp_only : onlE (shL smpL) = 0 ∧ onlL (shL smpL) = smpL := by
 constructor <;> kernel_rfl
theorem smp_fits : (shL smpL).length = 2 ∧ ((shL smpL).all fun r => decide (r.length ≤ 44) && r.all fun s => decide (s.length ≤ 44)) = true := ⟨rfl, by kernel_rfl⟩
theorem smp_fits3 : Fits3 (shL smpL) := by
 have h := smp_fits.2
 rw [List.all_eq_true] at h
 refine ⟨by rw [smp_fits.1]; decide, fun r hr => ?_, fun r hr s hs => ?_⟩
 · have := h r hr
   rw [Bool.and_eq_true] at this
   have := of_decide_eq_true this.1
   omega
 · have := h r hr
   rw [Bool.and_eq_true, List.all_eq_true] at this
   have := of_decide_eq_true (this.2 s hs)
   omega
theorem smp_len : ∀ i, i < 2 → (smpL.getD i []).length ≤ 64 := by
 intro i hi
 have : i = 0 ∨ i = 1 := by omega
 rcases this with rfl | rfl <;> decide
theorem sim_79 : S (simL 79) = ⟨#[48, 68, 79, 81]⟩ := by kernel_rfl
theorem p_sim79 (w : World) (hG : TabG 0 w) : Calls Tryz.prog 10 #[.int .u8 79] w fun e w' => e = .returned (.string ⟨#[48, 68, 79, 81]⟩) ∧ Below w.heap.size w w' := by
 have h := p_sim 79 (by decide) w hG
 rw [sim_79] at h
 exact h
set_option maxHeartbeats 1000000 in
theorem p_awake (w : World) (hM : Mm w) (hG : TabG 0 w) : Calls Tryz.prog 11 #[] w fun e w' => e = .returned (.bool true) ∧ Below w.heap.size w w' := by
 have HM := Lib.hid (show _ ∧ _ from ⟨hM, hG⟩)
 clear hM hG
 go_enter Tryz.func11, Tryz.ntmps11
 go_wp2_with (first
  | (go_at_call 30; have HS3b := HS3.out; clear HS3b; ((with_reducible refine (p_sample _).mono ?_); rintro e w4 ⟨A13, rfl, hs4, hb4⟩); have HS4 := Lib.hid hs4; replace HS3 := Lib.hid (HS3.out.on hb4); replace HB := Lib.hid (HB.out.trans (hb4.mono HB.out.size)); clear hs4 hb4)
  | (go_at_call 30; ((with_reducible refine (p_sample _).mono ?_); rintro e w1 ⟨A4, rfl, hs1, hb1⟩); have HS1 := Lib.hid hs1; have HB := Lib.hid hb1; clear hs1 hb1)
  | (go_at_call 29; ((with_reducible refine (r_sharp smpL A4 2 2 rfl (by decide) smp_len _ HS1.out).mono ?_); rintro e w2 ⟨A5, c5, vs, rfl, ho, hin, hb2⟩); have HR := Lib.hid (rdg_of_own ho hin); replace HB := Lib.hid (HB.out.trans (hb2.mono HB.out.size)); clear HS1 ho hin hb2)
  | (go_at_call 22; ((with_reducible refine (p_only (shL smpL) smp_fits3 A5 2 c5 rfl _ (HM.out.1.on HB.out) HR.out).mono ?_); rintro e w3 ⟨A6, rfl, hs3, hb3⟩); rw [smp_only.1, smp_only.2] at *; rw [show smpL.length = 2 from rfl]; have HS3 := Lib.hid hs3.1; replace HB := Lib.hid (HB.out.trans (hb3.mono HB.out.size)); clear HR hs3 hb3)
  | (go_at_call 24; ((with_reducible refine (r_same_eq smpL A6 A13 2 2 2 rfl (by decide) _ HS3.out HS4.out).mono ?_); rintro e w5 ⟨rfl, hb5⟩); replace HB := Lib.hid (HB.out.trans (hb5.mono HB.out.size)); clear HS3 HS4 hb5)
  | (go_at_call 10; ((with_reducible refine (p_sim79 _ (HM.out.2.on HB.out)).mono ?_); rintro e w6 ⟨rfl, hb6⟩); replace HB := Lib.hid (HB.out.trans (hb6.mono HB.out.size)); clear hb6))
 go_ret
 exact ⟨rfl, HB.out⟩
end Go.Proofs.YtibahbkjjfmbgaaGreatDoor
