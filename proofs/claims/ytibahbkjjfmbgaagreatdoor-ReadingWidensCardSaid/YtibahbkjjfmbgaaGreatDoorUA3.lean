/-
  What is proved here: a text that came in is within the form's own reach; no condition.
-/
import Derived.Test.YtibahbkjjfmbgaaGreatDoorRows
import Derived.ProofKit
import Derived.SizedLaws
import Derived.Test.YtibahbkjjfmbgaaGreatDoorUA1
import Derived.Test.YtibahbkjjfmbgaaGreatDoorUShf
import Derived.Test.YtibahbkjjfmbgaaGreatDoorCards
import Derived.Test.YtibahbkjjfmbgaaGreatDoorTie
import Derived.OpenShut
import Derived.LaidMore
import Derived.Lay
import Derived.SevenTiedAt
import Derived.Stop.Joined
namespace Go.Proofs.YtibahbkjjfmbgaaGreatDoor
open Go.ChangeShapes Go.WideShapes Go.ChangeAt Go.RowKit
end Go.Proofs.YtibahbkjjfmbgaaGreatDoor
namespace Go.Proofs.YtibahbkjjfmbgaaGreatDoor
open Go.RowKit
def wt (k : Nat) : Int := if k % 3 = 0 then 7 else if k % 3 = 1 then 3 else 1
def sumL (x : List UInt8) : Nat → Int
 | 0 => 0
 | k + 1 => sumL x k + vI (cB x k) * wt k
theorem sumL_succ (x : List UInt8) (k : Nat) : sumL x (k + 1) = sumL x k + vI (cB x k) * wt k := rfl
theorem wt_cases (k : Nat) : wt k = 7 ∨ wt k = 3 ∨ wt k = 1 := by
 unfold wt
 split
 · simp
 · split <;> simp
theorem sumL_bd {x : List UInt8} (hv : validL x = true) (k : Nat) (hk : k ≤ x.length) : 0 ≤ sumL x k ∧ sumL x k ≤ 245 * k := by
 induction k with
 | zero => simp [sumL]
 | succ k ih =>
  have h1 := ih (by omega)
  have h2 := validL_at hv k (by omega)
  have h3 := (vI_le (cB x k)).2
  rw [sumL_succ]
  rcases wt_cases k with e | e | e <;> rw [e] <;> omega
def dgL (x : List UInt8) : List UInt8 := if validL x = true then [UInt8.ofNat (48 + sumL x x.length % 10).toNat] else []
def dgE (x : List UInt8) : Int := if validL x = true then 0 else 12
def TabW (w : World) : Prop := w.cell? ⟨4, 0, none⟩ = some (.int .i64 7) ∧ w.cell? ⟨4, 1, none⟩ = some (.int .i64 3) ∧ w.cell? ⟨4, 2, none⟩ = some (.int .i64 1)
theorem wt_index0 (w : World) : (Instr.index 119 (.agg #[.int .i64 7, .int .i64 3, .int .i64 1]) (.int .i64 0)).run Tryz.prog w = .ok (.int .i64 7) w := by
 have hu := Tryz.underlying119
 have hz := Tryz.sizeOf3
 simp [Instr.index, asIntOf, run_underlying hu, hz, go_sem, part]
theorem wt_index1 (w : World) : (Instr.index 119 (.agg #[.int .i64 7, .int .i64 3, .int .i64 1]) (.int .i64 1)).run Tryz.prog w = .ok (.int .i64 3) w := by
 have hu := Tryz.underlying119
 have hz := Tryz.sizeOf3
 simp [Instr.index, asIntOf, run_underlying hu, hz, go_sem, part]
theorem wt_index2 (w : World) : (Instr.index 119 (.agg #[.int .i64 7, .int .i64 3, .int .i64 1]) (.int .i64 2)).run Tryz.prog w = .ok (.int .i64 1) w := by
 have hu := Tryz.underlying119
 have hz := Tryz.sizeOf3
 simp [Instr.index, asIntOf, run_underlying hu, hz, go_sem, part]
theorem tabW_drew {w wr : World} {a : Addr} {v : Value} (h : ∃ n, wr = w.drewN n) (hc : w.cell? a = some v) : wr.cell? a = some v := by obtain ⟨n, rfl⟩ := h; exact hc
theorem p_itoa (i : Int) (h0 : 0 ≤ i) (h : i < 10) (w : World) : Calls Tryz.prog 153 #[.int .i64 i] w fun e w' => e = .returned (.string (S [UInt8.ofNat (48 + i).toNat])) ∧ w' = w := by
 have h : i = 0 ∨ i = 1 ∨ i = 2 ∨ i = 3 ∨ i = 4 ∨ i = 5 ∨ i = 6 ∨ i = 7 ∨ i = 8 ∨ i = 9 := by omega
 rcases h with rfl | rfl | rfl | rfl | rfl | rfl | rfl | rfl | rfl | rfl
 all_goals
  go_enter Tryz.func153, Tryz.ntmps153
  go_wp2
  go_ret
  exact ⟨rfl, rfl⟩
theorem p_digit (s : ByteArray) (x : List UInt8) (hx : s = S x) (w : World) (hm : s.size ≤ 140737488355328) (hW : TabW w) :
 Calls Tryz.prog 130 #[.string s] w fun e w' => e = .returned (.tuple #[.string (S (dgL x)), .int .i64 (dgE x)]) ∧ ∃ n, w' = w.drewN n := by
 have hl : s.size = x.length := by rw [hx, S_size]
 have HX := Lib.hid hx
 have HL := Lib.hid hl
 clear hx hl
 obtain ⟨t0, t1, t2⟩ := hW
 by_cases hv : validL x = true
 ·
  obtain ⟨D, hD⟩ : ∃ D, D = dgL x := ⟨_, rfl⟩
  have HD := Lib.hid hD
  have HE : Hid (dgE x = 0) := Lib.hid (by simp [dgE, hv])
  have HV := Lib.hid hv
  clear hv
  rw [← hD, HE.out]
  clear hD
  go_enter Tryz.func130, Tryz.ntmps130
  go_wp2_with (go_at_call 37; refine (p_valid _ x HX.out _ (by unfold maxLen; omega)).mono ?_; rintro e w' ⟨rfl, hw⟩; rw [hw, HV.out]; clear hw)
  go_loopw [4, 11] (fun v i wr => ∃ k : Nat, k ≤ s.size ∧ i = .int .i64 k ∧ v = .int .i64 (sumL x k) ∧ Hid (∃ n, wr = w.drewN n)) (fun _ i _ => s.size - (intOf i).toNat)
  case atStart => exact ⟨0, Nat.zero_le _, rfl, rfl, Lib.hid ⟨0, rfl⟩⟩
  case round =>
   obtain ⟨k, hk, rfl, rfl, HW⟩ := hrel
   have t0' := tabW_drew HW.out t0
   have t1' := tabW_drew HW.out t1
   have t2' := tabW_drew HW.out t2
   clear t0 t1 t2
   have hs := sumL_bd HV.out k (by have := HL.out; omega)
   obtain ⟨y, hy⟩ : ∃ y, sumL x k = y := ⟨_, rfl⟩
   have HY := Lib.hid hy
   rw [hy] at hs ⊢
   obtain ⟨hs0, hs1⟩ := hs
   clear hy
   by_cases hlt : k < s.size
   ·
    have hc := s_at HX.out k hlt
    have hv0 := validL_at HV.out k (by have := HL.out; omega)
    obtain ⟨v, hv⟩ : ∃ v, vI (cB x k) = v := ⟨_, rfl⟩
    have hvs : vI ((s[k]'hlt).toNat : Int) = v := by rw [hc]; exact hv
    have hv1 : v ≤ 35 := by have := (vI_le (cB x k)).2; omega
    rw [hv] at hv0
    have HVK := Lib.hid hv
    have HVS := Lib.hid hvs
    clear hv hvs hc
    have h3 : k % 3 = 0 ∨ k % 3 = 1 ∨ k % 3 = 2 := by omega
    rcases h3 with h3 | h3 | h3
    all_goals
     have H3 := Lib.hid h3
     have i3 : (k : Int) % 3 = ((k % 3 : Nat) : Int) := by omega
     rw [H3.out] at i3
     clear h3
     go_wp2
     go_quiet ((go_at_call 32; exact Calls.quiet_of_same (p_value _ v HVS.out (by omega) (by have := UInt8.toNat_lt (s[k]'hlt); omega) _)))
     go_wp2
     go_roundw
     case rel =>
      exact ⟨k + 1, by omega, by go_num, (by rw [sumL_succ, HY.out, HVK.out]; simp [wt, H3.out]), Lib.hid (by obtain ⟨n, hn⟩ := HW.out; exact ⟨n + nq, by rw [hn, World.drewN_drewN]⟩)⟩
     case measure => simp [intOf]; omega
   · have hkx : Hid (k = x.length) := Lib.hid (by have := HL.out; omega)
     have hq0 : 0 ≤ y % 10 := by omega
     have hq1 : y % 10 < 10 := by omega
     have hd : S [UInt8.ofNat (48 + y % 10).toNat] = S D := by
      rw [HD.out]; unfold dgL; rw [if_pos HV.out, ← hkx.out, HY.out]
     have HDD := Lib.hid hd
     clear hd
     go_wp2_with (go_at_call 153; refine (p_itoa _ hq0 hq1 _).mono ?_; rintro e w' ⟨rfl, hw⟩; rw [hw, HDD.out]; clear hw)
     go_ret2
     exact ⟨rfl, HW.out⟩
 · have HE : Hid (dgE x = 12) := Lib.hid (by simp [dgE, hv])
   have HD : Hid (dgL x = []) := Lib.hid (by simp [dgL, hv])
   have HV : Hid (validL x = false) := Lib.hid (by simpa using hv)
   clear hv
   rw [HE.out, HD.out]
   go_enter Tryz.func130, Tryz.ntmps130
   go_wp2_with (go_at_call 37; refine (p_valid _ x HX.out _ (by unfold maxLen; omega)).mono ?_; rintro e w' ⟨rfl, hw⟩; rw [hw, HV.out]; clear hw)
   go_ret2
   exact ⟨rfl, 0, rfl⟩
theorem r_digit (s : ByteArray) (x : List UInt8) (hx : s = S x) (w : World) (hm : s.size ≤ 140737488355328) :
 Calls Tryz.prog 77 #[.string s] w fun e w' => e = .returned (.tuple #[.string (S (dgL x)), .int .i64 (dgE x)]) ∧ Below w.heap.size w w' := by
 have hl : s.size = x.length := by rw [hx, S_size]
 have HX := Lib.hid hx
 have HL := Lib.hid hl
 clear hx hl
 by_cases hv : validL x = true
 ·
  obtain ⟨D, hD⟩ : ∃ D, D = dgL x := ⟨_, rfl⟩
  have HD := Lib.hid hD
  have HE : Hid (dgE x = 0) := Lib.hid (by simp [dgE, hv])
  have HV := Lib.hid hv
  clear hv
  rw [← hD, HE.out]
  clear hD
  go_enter Tryz.func77, Tryz.ntmps77
  go_wp2_with (go_at_call 41; refine (r_valid _ x HX.out _ (by unfold maxLen; omega)).mono ?_; rintro e w' ⟨rfl, hw⟩; rw [hw, HV.out]; clear hw)
  go_loopw [4, 5] (fun v i wr => ∃ k : Nat, k ≤ s.size ∧ i = .int .i64 k ∧ v = .int .i64 (sumL x k) ∧ Hid (∃ n, wr = w.drewN n)) (fun _ i _ => s.size - (intOf i).toNat)
  case atStart => exact ⟨0, Nat.zero_le _, rfl, rfl, Lib.hid ⟨0, rfl⟩⟩
  case round =>
   obtain ⟨k, hk, rfl, rfl, HW⟩ := hrel
   have hs := sumL_bd HV.out k (by have := HL.out; omega)
   obtain ⟨y, hy⟩ : ∃ y, sumL x k = y := ⟨_, rfl⟩
   have HY := Lib.hid hy
   rw [hy] at hs ⊢
   obtain ⟨hs0, hs1⟩ := hs
   clear hy
   by_cases hlt : k < s.size
   ·
    have hc := s_at HX.out k hlt
    have hv0 := validL_at HV.out k (by have := HL.out; omega)
    obtain ⟨v, hv⟩ : ∃ v, vI (cB x k) = v := ⟨_, rfl⟩
    have hvs : vI ((s[k]'hlt).toNat : Int) = v := by rw [hc]; exact hv
    have hv1 : v ≤ 35 := by have := (vI_le (cB x k)).2; omega
    rw [hv] at hv0
    have HVK := Lib.hid hv
    have HVS := Lib.hid hvs
    clear hv hvs hc
    have h3 : k % 3 = 0 ∨ k % 3 = 1 ∨ k % 3 = 2 := by omega
    rcases h3 with h3 | h3 | h3
    all_goals
     have H3 := Lib.hid h3
     have i3 : (k : Int) % 3 = ((k % 3 : Nat) : Int) := by omega
     rw [H3.out] at i3
     have i4 : (k : Int).tmod 3 = (k : Int) % 3 := Int.tmod_eq_emod_of_nonneg (by omega)
     rw [i3] at i4
     have x0 := wt_index0
     have x1 := wt_index1
     have x2 := wt_index2
     clear h3
     go_wp2
     go_quiet ((go_at_call 34; exact Calls.quiet_of_same (r_value _ v HVS.out (by omega) (by have := UInt8.toNat_lt (s[k]'hlt); omega) _)))
     go_wp2
     go_roundw
     case rel =>
      exact ⟨k + 1, by omega, by go_num, (by rw [sumL_succ, HY.out, HVK.out]; simp [wt, H3.out]), Lib.hid (by obtain ⟨n, hn⟩ := HW.out; exact ⟨n + nq, by rw [hn, World.drewN_drewN]⟩)⟩
     case measure => simp [intOf]; omega
   ·
    have hkx : Hid (k = x.length) := Lib.hid (by have := HL.out; omega)
    have hq0 : 0 ≤ y % 10 := by omega
    have hq1 : y % 10 < 10 := by omega
    have hd : S [UInt8.ofNat (48 + y % 10).toNat] = S D := by
     rw [HD.out]; unfold dgL; rw [if_pos HV.out, ← hkx.out, HY.out]
    have HDD := Lib.hid hd
    clear hd
    have hu : ((UInt8.ofNat (48 + y % 10).toNat).toNat : Int) = 48 + y % 10 := by rw [UInt8.toNat_ofNat']; omega
    have hs2 : Sees (wr.alloc (.cells #[.int .u8 (48 + y % 10)] 5)) (wr.heap.size + 1) (some ⟨wr.heap.size, 0, none⟩) (Us [UInt8.ofNat (48 + y % 10).toNat]) := by
     refine .inr ⟨wr.heap.size, 0, rfl, by omega, fun j hj => ?_⟩
     rw [Us_length] at hj
     obtain rfl : j = 0 := by simpa using hj
     rw [cell_of_row _ wr.heap.size 0 _ _ _ (heap_alloc_new wr _)]
     simp only [Us, U, List.map_cons, List.map_nil, List.getElem?_cons_zero, hu]; rfl
    have hc := run_conv _ _ _ _ hs2 1 1 rfl
    rw [HDD.out] at hc
    clear hs2 hu
    have y0 : 0 ≤ 48 + y % 10 := by omega
    have y1 : 48 + y % 10 ≤ 57 := by omega
    go_wp2
    go_ret2
    refine ⟨rfl, ?_⟩
    obtain ⟨n, hn⟩ := HW.out
    subst hn
    exact (below_drewN _ _ _).alloc (Nat.le_refl _) _
 · have HE : Hid (dgE x = 12) := Lib.hid (by simp [dgE, hv])
   have HD : Hid (dgL x = []) := Lib.hid (by simp [dgL, hv])
   have HV : Hid (validL x = false) := Lib.hid (by simpa using hv)
   clear hv
   rw [HE.out, HD.out]
   go_enter Tryz.func77, Tryz.ntmps77
   go_wp2_with (go_at_call 41; refine (r_valid _ x HX.out _ (by unfold maxLen; omega)).mono ?_; rintro e w' ⟨rfl, hw⟩; rw [hw, HV.out]; clear hw)
   go_ret2
   exact ⟨rfl, Below.refl _ _⟩
theorem S_append (x y : List UInt8) : S x ++ S y = S (x ++ y) := by
 apply ByteArray.ext
 simp [S]
theorem S_of (s : ByteArray) : s = S s.data.toList := by simp [S]
theorem S_extract (x : List UInt8) (a b : Nat) : (S x).extract a b = S ((x.drop a).take (b - a)) := by
 apply ByteArray.ext
 simp [S, List.take_drop]
theorem p_clone (s : ByteArray) (hs : s.size ≤ 281474976710656) (w : World) :
 Calls Tryz.prog 94 #[.string s] w fun e w' => e = .returned (.string s) ∧ Below w.heap.size w w' := by
 go_enter Tryz.func94, Tryz.ntmps94
 go_wp2_with (go_at_call 129; refine (sh_stringslite_Clone _ _ hs).mono ?_; rintro e w' ⟨rfl, hw⟩)
 go_ret
 exact ⟨rfl, hw⟩
def fieldL (x y : List UInt8) (w : Nat) : List UInt8 := (exL 32 60 x ++ [60, 60] ++ exL 32 60 y ++ List.replicate w 60).take w
def namesE (x y : List UInt8) (w : Int) : Int := if nameL x = false ∨ nameL y = false ∨ x = [] then 14 else if w < 1 ∨ 64 < w then 2 else 0
def namesL (x y : List UInt8) (w : Int) : List UInt8 := if namesE x y w = 0 then fieldL x y w.toNat else []
theorem namesE_1 {x y : List UInt8} {w : Int} (h : nameL x = false ∨ nameL y = false ∨ x = []) : namesE x y w = 14 ∧ namesL x y w = [] := by
 have e : namesE x y w = 14 := by unfold namesE; rw [if_pos h]
 exact ⟨e, by unfold namesL; rw [e]; rfl⟩
theorem namesE_2 {x y : List UInt8} {w : Int} (h : ¬ (nameL x = false ∨ nameL y = false ∨ x = [])) (h2 : w < 1 ∨ 64 < w) : namesE x y w = 2 ∧ namesL x y w = [] := by
 have e : namesE x y w = 2 := by unfold namesE; rw [if_neg h, if_pos h2]
 exact ⟨e, by unfold namesL; rw [e]; rfl⟩
theorem namesE_3 {x y : List UInt8} {w : Int} (h : ¬ (nameL x = false ∨ nameL y = false ∨ x = [])) (h2 : ¬ (w < 1 ∨ 64 < w)) : namesE x y w = 0 ∧ namesL x y w = fieldL x y w.toNat := by
 have e : namesE x y w = 0 := by unfold namesE; rw [if_neg h, if_neg h2]
 exact ⟨e, by unfold namesL; rw [e]; rfl⟩
def wideL (x : List UInt8) (w : Nat) : List UInt8 := x ++ List.replicate (w - x.length) 60
theorem wideL_len (x : List UInt8) (w : Nat) : w ≤ (wideL x w).length := by simp [wideL]; omega
theorem take_fill (x : List UInt8) (w n : Nat) (h : w ≤ x.length + n) : (x ++ List.replicate n 60).take w = (wideL x w).take w := by
 unfold wideL
 rw [List.take_append, List.take_append]
 congr 1
 rw [List.take_replicate, List.take_replicate]
 congr 1
 omega
theorem field_some (x y : List UInt8) (w : Nat) : fieldL x y w = (wideL (exL 32 60 x ++ ([60, 60] ++ exL 32 60 y)) w).take w := by
 unfold fieldL
 rw [← take_fill _ w w (by omega)]
 simp
theorem field_none (x : List UInt8) (w : Nat) : fieldL x [] w = (wideL (exL 32 60 x) w).take w := by
 unfold fieldL
 rw [← take_fill _ w (w + 2) (by omega)]
 simp [exL, List.replicate_succ]
theorem s_nil {s : ByteArray} {x : List UInt8} (hx : s = S x) (h : x = []) : s.toList.isEmpty = true := by rw [hx, S_toList, h]; rfl
theorem s_ne {s : ByteArray} {x : List UInt8} (hx : s = S x) (h : x ≠ []) : s.toList.isEmpty = false := by
 rw [hx, S_toList]; simpa using h
theorem r_wide (s : ByteArray) (x : List UInt8) (hx : s = S x) (n : Nat) (hn : n ≤ 64) (w : World) :
 Calls Tryz.prog 73 #[.string s, .int .i64 n] w fun e w' => e = .returned (.string (S (wideL x n))) ∧ w' = w := by
 have HX := Lib.hid hx
 go_enter Tryz.func73, Tryz.ntmps73
 go_wp2
 go_loop [0] (fun v => ∃ (k : Nat) (r : ByteArray), v = .string r ∧ Hid (r = S (x ++ List.replicate k 60)) ∧ Hid (k = 0 ∨ x.length + k ≤ n)) (fun v => n - (match v with | .string r => r.size | _ => 0))
 case atStart => exact ⟨0, s, rfl, Lib.hid (by rw [hx]; simp), Lib.hid (.inl rfl)⟩
 case round =>
  obtain ⟨k, r, rfl, HR, HK⟩ := hrel
  have hsz : Hid (r.size = x.length + k) := Lib.hid (by rw [HR.out, S_size]; simp)
  by_cases hlt : r.size < n
  · have h2 : Hid (r ++ ⟨#[60]⟩ = S (x ++ List.replicate (k + 1) 60)) := Lib.hid (by
     rw [HR.out]
     show S _ ++ S [60] = _
     rw [S_append, List.replicate_succ', List.append_assoc])
    go_wp2
    go_round
    case rel => exact ⟨k + 1, _, rfl, h2, Lib.hid (.inr (by have := hsz.out; omega))⟩
    case measure =>
     have : (r ++ (⟨#[60]⟩ : ByteArray)).size = r.size + 1 := by rw [ByteArray.size_append]; rfl
     simp only [this]
     omega
  · have hd : r = S (wideL x n) := by
     rw [HR.out]
     unfold wideL
     have := HK.out
     have := hsz.out
     congr 3
     omega
    have HD := Lib.hid hd
    clear hd
    go_wp2
    go_ret
    exact ⟨by rw [← HD.out]; rfl, rfl⟩
set_option maxHeartbeats 1600000 in
theorem r_names (s t : ByteArray) (x y : List UInt8) (hx : s = S x) (hy : t = S y) (wd : Int) (w : World) (hm : s.size ≤ 140737488355328) (hm2 : t.size ≤ 140737488355328) :
 Calls Tryz.prog 76 #[.string s, .string t, .int .i64 wd] w fun e w' => e = .returned (.tuple #[.string (S (namesL x y wd)), .int .i64 (namesE x y wd)]) ∧ Below w.heap.size w w' := by
 have HX := Lib.hid hx
 have HY := Lib.hid hy
 by_cases h : nameL x = false ∨ nameL y = false ∨ x = []
 ·
  obtain ⟨e1, e2⟩ := namesE_1 (w := wd) h
  rw [e1, e2]
  clear e1 e2
  rcases hn1 : nameL x with _ | _
  · have H1 := Lib.hid hn1
    clear hn1 h hx hy
    go_enter Tryz.func76, Tryz.ntmps76
    go_wp2_with (go_at_call 86; refine (r_name s x HX.out _ hm).mono ?_; rintro e w' ⟨rfl, hw⟩; rw [hw, H1.out]; clear hw)
    go_ret2
    exact ⟨rfl, Below.refl _ _⟩
  ·
   have H1 := Lib.hid hn1
   rcases hn2 : nameL y with _ | _
   · have H2 := Lib.hid hn2
     clear hn1 hn2 h hx hy
     go_enter Tryz.func76, Tryz.ntmps76
     go_wp2_with (go_at_call 86; first
      | (with_reducible refine (r_name s x HX.out _ hm).mono ?_; rintro e w' ⟨rfl, hw⟩; rw [hw, H1.out]; clear hw)
      | (with_reducible refine (r_name t y HY.out _ hm2).mono ?_; rintro e w' ⟨rfl, hw⟩; rw [hw, H2.out]; clear hw))
     go_ret2
     exact ⟨rfl, Below.refl _ _⟩
   · have H2 := Lib.hid hn2
     have h3 : x = [] := by rw [hn1, hn2] at h; simpa using h
     have he := s_nil hx h3
     clear hn1 hn2 h hx hy h3
     go_enter Tryz.func76, Tryz.ntmps76
     go_wp2_with (go_at_call 86; first
      | (with_reducible refine (r_name s x HX.out _ hm).mono ?_; rintro e w' ⟨rfl, hw⟩; rw [hw, H1.out]; clear hw)
      | (with_reducible refine (r_name t y HY.out _ hm2).mono ?_; rintro e w' ⟨rfl, hw⟩; rw [hw, H2.out]; clear hw))
     go_ret2
     exact ⟨rfl, Below.refl _ _⟩
 ·
  have hn1 : nameL x = true := by rcases hb : nameL x with _ | _; exact absurd (.inl hb) h; rfl
  have hn2 : nameL y = true := by rcases hb : nameL y with _ | _; exact absurd (.inr (.inl hb)) h; rfl
  have hne := s_ne hx (fun e => h (.inr (.inr e)))
  have H1 := Lib.hid hn1
  have H2 := Lib.hid hn2
  clear hn1 hn2
  by_cases h2 : wd < 1 ∨ 64 < wd
  · obtain ⟨e1, e2⟩ := namesE_2 h h2
    rw [e1, e2]
    clear e1 e2 h hx hy
    rcases h2 with h2 | h2
    all_goals
     go_enter Tryz.func76, Tryz.ntmps76
     go_wp2_with (go_at_call 86; first
      | (with_reducible refine (r_name s x HX.out _ hm).mono ?_; rintro e w' ⟨rfl, hw⟩; rw [hw, H1.out]; clear hw)
      | (with_reducible refine (r_name t y HY.out _ hm2).mono ?_; rintro e w' ⟨rfl, hw⟩; rw [hw, H2.out]; clear hw))
     go_ret2
     exact ⟨rfl, Below.refl _ _⟩
  ·
   obtain ⟨e1, e2⟩ := namesE_3 h h2
   rw [e1, e2]
   clear e1 e2 h
   obtain ⟨n, rfl⟩ : ∃ n : Nat, wd = (n : Int) := ⟨wd.toNat, by omega⟩
   have n1 : 1 ≤ n := by omega
   have n2 : n ≤ 64 := by omega
   clear h2
   obtain ⟨SA, hSA⟩ : ∃ SA, S (exL 32 60 x) = SA := ⟨_, rfl⟩
   obtain ⟨SB, hSB⟩ : ∃ SB, S (exL 32 60 y) = SB := ⟨_, rfl⟩
   have HA := Lib.hid hSA
   have HB := Lib.hid hSB
   have hla : SA.size ≤ 140737488355328 := by rw [← hSA, S_size, exL_length, ← S_size, ← HX.out]; exact hm
   have hlb : SB.size ≤ 140737488355328 := by rw [← hSB, S_size, exL_length, ← S_size, ← HY.out]; exact hm2
   by_cases hy0 : y = []
   ·
    have ht := s_nil hy hy0
    obtain ⟨SW, hSW⟩ : ∃ SW, S (wideL (exL 32 60 x) n) = SW := ⟨_, rfl⟩
    have hwl : n ≤ SW.size := by rw [← hSW, S_size]; exact wideL_len _ _
    have hF : Hid (SW.extract 0 n = S (fieldL x y n)) := Lib.hid (by rw [← hSW, S_extract, hy0, field_none]; simp)
    have HW := Lib.hid hSW
    clear hSA hSB hSW hx hy hy0
    go_enter Tryz.func76, Tryz.ntmps76
    go_wp2_with (first
     | (go_at_call 86; first
      | (with_reducible refine (r_name s x HX.out _ hm).mono ?_; rintro e w' ⟨rfl, hw⟩; rw [hw, H1.out]; clear hw)
      | (with_reducible refine (r_name t y HY.out _ hm2).mono ?_; rintro e w' ⟨rfl, hw⟩; rw [hw, H2.out]; clear hw))
     | (go_at_call 119; with_reducible refine (r_fill s x HX.out _ hm).mono ?_; rintro e w1 ⟨rfl, hw1⟩; rw [HA.out])
     | (go_at_call 73; refine (r_wide _ _ HA.out.symm n n2 _).mono ?_; rintro e w' ⟨rfl, hw⟩; rw [hw, HW.out]; clear hw))
    go_ret2
    exact ⟨by have := hF.out; rw [show ((n : Int).toNat) = n from rfl, ← this]; rfl, hw1⟩
   ·
    have ht := s_ne hy hy0
    have hP : SA ++ (⟨#[60, 60]⟩ ++ SB) = S (exL 32 60 x ++ ([60, 60] ++ exL 32 60 y)) := by
     rw [← hSA, ← hSB]
     show S _ ++ (S [60, 60] ++ S _) = _
     rw [S_append, S_append]
    have HP := Lib.hid hP
    obtain ⟨SW, hSW⟩ : ∃ SW, S (wideL (exL 32 60 x ++ ([60, 60] ++ exL 32 60 y)) n) = SW := ⟨_, rfl⟩
    have hwl : n ≤ SW.size := by rw [← hSW, S_size]; exact wideL_len _ _
    have hF : Hid (SW.extract 0 n = S (fieldL x y n)) := Lib.hid (by rw [← hSW, S_extract, field_some]; simp)
    have HW := Lib.hid hSW
    clear hSA hSB hSW hx hy hy0 hP
    go_enter Tryz.func76, Tryz.ntmps76
    go_wp2_with (first
     | (go_at_call 86; first
      | (with_reducible refine (r_name s x HX.out _ hm).mono ?_; rintro e w' ⟨rfl, hw⟩; rw [hw, H1.out]; clear hw)
      | (with_reducible refine (r_name t y HY.out _ hm2).mono ?_; rintro e w' ⟨rfl, hw⟩; rw [hw, H2.out]; clear hw))
     | (go_at_call 119; first
      | (with_reducible refine (r_fill s x HX.out _ hm).mono ?_; rintro e w1 ⟨rfl, hw1⟩; rw [HA.out])
      | (with_reducible refine (r_fill t y HY.out _ hm2).mono ?_; rintro e w2 ⟨rfl, hw2⟩; rw [HB.out]))
     | (go_at_call 73; refine (r_wide _ _ HP.out n n2 _).mono ?_; rintro e w' ⟨rfl, hw⟩; rw [hw, HW.out]; clear hw))
    go_ret2
    exact ⟨by have := hF.out; rw [show ((n : Int).toNat) = n from rfl, ← this]; rfl, below_on hw1 hw2⟩
end Go.Proofs.YtibahbkjjfmbgaaGreatDoor
namespace Go.Proofs.YtibahbkjjfmbgaaGreatDoor
open Go.ChangeShapes Go.WideShapes Go.ChangeAt Go.RowKit
theorem arr_cells {H : Type} {enc : TypeId × Value → H} {P : Program} {w : World} {base : Nat} {sp : Nat → Bool} {held : Bool} {fuel : Nat} {t e : TypeId} {n : Nat} {k : IntKind} {cs : List Value} {q : List MemPlace} (zs : List Int)
 (ht : P.underlying t = some (.array n e)) (he : P.underlying e = some (.int k)) (hc : P.cellsOf e = 1) (hn : zs.length = n)
 (h : DataW.trod enc P w base sp held fuel t cs = some (.agg (zs.map fun z => .lit (.int k z)), q)) (j : Nat) (hj : j < zs.length) : cs[j]? = some (.int k zs[j]) := by
 obtain ⟨xs, m, _, ex, _, hl, hel⟩ := DataW.trod_array ht h
 have hE := hel j (by omega)
 rw [hc, Nat.mul_one, List.getElem?_eq_getElem (by omega)] at hE
 obtain ⟨z, e1, e2, _⟩ := DataW.trod_int he hE
 have e3 : (xs.map (·.1)) = zs.map fun n => .lit (.int k n) := (DataW.agg.inj (Prod.mk.inj ex).1).symm
 have e4 : (xs.map (·.1))[j]? = (zs.map fun n => (DataW.lit (.int k n) : DataW H))[j]? := by rw [e3]
 rw [List.getElem?_map, List.getElem?_map, List.getElem?_eq_getElem (by omega : j < xs.length), List.getElem?_eq_getElem hj, e2] at e4
 have hz : z = zs[j] := by simpa using e4
 have h0 : ((cs.drop j).take 1)[0]? = some (.int k z) := by rw [e1]; rfl
 rw [← hz]
 simpa using h0
theorem own : ownKnob Tryz.prog.godebug = none := by kernel_rfl
theorem laid_w : Rows.laid_traveldoc_optical_weights (H := Unit) = .agg (([7, 3, 1] : List Int).map fun z => .lit (.int .i64 z)) := by kernel_rfl
theorem tab_w {W : World} {n : String} {g : Nat} {t : TypeId} {cs : Array Value} {fuel : Nat} {p : List MemPlace} {d : DataW Unit} (hd0 : d = .agg (([7, 3, 1] : List Int).map fun z => .lit (.int .i64 z))) (ht : t = 119) (hg : Tryz.prog.globalNamed n = some g) (hv : W.var? Tryz.prog n = some cs)
 (hd : DataW.trod (fun _ => ()) Tryz.prog W 0 (fun _ => true) false fuel t cs.toList = some (d, p)) (he : g = 4) : TabW W := by
 subst hd0 ht he
 have hk : ∀ k : Nat, (hk : k < 3) → W.cell? ⟨4, k, none⟩ = some (.int .i64 (([7, 3, 1] : List Int)[k]'hk)) := by
  intro k hk
  have e := arr_cells [7, 3, 1] Tryz.underlying119 Tryz.underlying3 (by kernel_rfl) rfl hd k hk
  rw [World.var?_cell hg hv k]
  simpa using e
 exact ⟨hk 0 (by decide), hk 1 (by decide), hk 2 (by decide)⟩
theorem TabW.below {w w' : World} (h : TabW w) (hb : Below w.heap.size w w') : TabW w' := by
 have hl : 4 < w.heap.size := by
  rcases Nat.lt_or_ge 4 w.heap.size with h1 | h1
  · exact h1
  · have := h.1
    unfold World.cell? at this
    rw [Array.getElem?_eq_none h1] at this
    cases this
 exact ⟨(hb.cell (p := ⟨4, 0, none⟩) hl).trans h.1, (hb.cell (p := ⟨4, 1, none⟩) hl).trans h.2.1, (hb.cell (p := ⟨4, 2, none⟩) hl).trans h.2.2⟩
theorem TabW.drew {w w' : World} (h : TabW w) (hb : ∃ n, w' = w.drewN n) : TabW w' := by obtain ⟨n, rfl⟩ := hb; exact h
theorem below_dr {w w' : World} (hb : ∃ n, w' = w.drewN n) : Below w.heap.size w w' := by obtain ⟨n, rfl⟩ := hb; exact below_drewN _ _ _
end Go.Proofs.YtibahbkjjfmbgaaGreatDoor
