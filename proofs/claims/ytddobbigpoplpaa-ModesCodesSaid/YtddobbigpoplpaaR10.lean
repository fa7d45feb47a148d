/-
  What is proved here: what the reference's method Decrypt answers for a ready cipher.
-/
import Derived.Test.YtddobbigpoplpaaR9
namespace Go.Proofs.Ytddobbigpoplpaa
open Go.RowKit
set_option linter.unusedVariables false

/-- after j rounds -/
def eD (k b : List UInt8) (j : Nat) : List UInt8 := if j = 0 then b else dR k b (j - 1)
theorem eD_length (k b : List UInt8) (hb : b.length = 16) (j : Nat) : (eD k b j).length = 16 := by
  unfold eD
  split
  · exact hb
  · exact dR_length k b _
theorem eD_first (k b : List UInt8) : eD k b 1 = subL isb (rotL (addL (eD k b 0) (rk k 10) 16) 3 16) 16 := by
  unfold eD
  rw [if_neg (by decide), if_pos rfl]
  rfl
theorem eD_mid (k b : List UInt8) (t : Nat) (h1 : 1 ≤ t) (h2 : t < 10) : eD k b (10 - (t - 1)) = subL isb (rotL (m3 (addL (eD k b (10 - t)) (rk k t) 16)) 3 16) 16 := by
  unfold eD
  rw [if_neg (by omega), if_neg (by omega)]
  obtain ⟨j, hj⟩ : ∃ j, j = 10 - t - 1 := ⟨_, rfl⟩
  rw [show 10 - (t - 1) - 1 = j + 1 by omega, ← hj, dR, show 9 - j = t by omega]
theorem eD_end (k b : List UInt8) : decL k b = addL (eD k b 10) (rk k 0) 16 := by
  unfold eD
  rw [if_neg (by decide), decL]
theorem ref_mixD (b : List UInt8) (g : Nat) (w : World) (hb : b.length = 16) (hr : RowB w g b) :
    Calls Try.prog 71 #[.pointer (some ⟨g, 0, none⟩), .agg #[.int .i64 14, .int .i64 11, .int .i64 13, .int .i64 9]] w (TurnB w g (m3 b)) := by
  have h := ref_mix b [14, 11, 13, 9] g w hb rfl hr
  rw [mx_dec hb] at h
  exact h
theorem m3_length (b : List UInt8) : (m3 b).length = 16 := by rw [m3, mixL_length]
theorem ChR.below {w wr w2 : World} {g : Nat} {x : List UInt8} (h : ChR w g x wr) (hb : Below wr.heap.size wr w2) : ChR w g x w2 := ⟨h.1, h.2.1.trans (hb.mono h.2.1.size), h.2.2.on hb⟩

set_option maxRecDepth 40000 in
set_option maxHeartbeats 2000000 in
theorem ref_mdec_n (k b : List UInt8) (gc : Nat) (AK A : Option Addr) (cK c : Nat) (w : World) (hk : k.length = 16) (hb : b.length = 16) (ht : TabAt w gc 256 isb)
    (hK : w.cell? ⟨gc, 512, none⟩ = some (.slice AK 11 cK)) (hs : SeesL w w.heap.size AK (keysL k)) (hx : Sees w w.heap.size A (Us b)) :
    Calls Try.prog 53 #[.pointer (some ⟨gc, 0, none⟩), .slice A 16 c] w (MkN w (decL k b)) := by
  obtain ⟨i0, hi, hz0, hz1, hz2⟩ := info_parts info_u8p
  obtain ⟨bb, ob, rfl, hbb, hxr⟩ := sees_range hx hb
  obtain ⟨bk, okk, rfl, hbk, hkc⟩ := keys_at hs hk
  have HL := Lib.hid (show _ ∧ _ ∧ _ ∧ _ from ⟨hk, hb, ht, hK⟩)
  have HB := Lib.hid (show _ ∧ _ ∧ _ ∧ _ from ⟨hbb, hxr, hbk, hkc⟩)
  clear hk hb ht hK hs hx hbb hxr hbk hkc
  go_enter Try.func53, Try.ntmps53
  go_wp2_with (first
    | ((with_reducible refine wpList_alloc_b (op := ⟨some 5, _, _, _, _, _⟩) rfl 50 rfl 16 info_s ?_); intro g w1 hf hr; have HI := Lib.hid (show ChR w g (cpL b 0) w1 from ⟨by rw [hf.1]; exact Nat.le_refl _, hf.bw, hr⟩); clear hf hr))
  go_loopw [6] (fun i wr => ∃ n : Nat, n ≤ 16 ∧ i = .int .i64 (n : Int) ∧ Hid (ChR w g (cpL b n) wr)) (fun i _ => 16 - (intOf i).toNat)
  case atStart => exact ⟨0, by decide, rfl, HI⟩
  case round =>
    clear HI
    obtain ⟨n, hn, rfl, HS⟩ := hrel
    by_cases h16 : n < 16
    · obtain ⟨v, hv⟩ : ∃ v, v = b.getD n 0 := ⟨_, rfl⟩
      obtain ⟨u, hu⟩ : ∃ u, wr.cell? ⟨g, n, none⟩ = some u := ⟨_, HS.out.2.2.cell (by rw [cpL_length]; exact h16)⟩
      have yf := HS.out.2.2.free n
      have y2 : wr.cell? ⟨bb, ob + n, none⟩ = some (.int .u8 (v.toNat : Int)) := by
        have h2 : w.cell? ⟨bb, ob + n, none⟩ = some (.int .u8 (v.toNat : Int)) := HB.out.2.1 n _ (by rw [hv, Us_get (by rw [HL.out.2.1]; exact h16), getD_b (by rw [HL.out.2.1]; exact h16)])
        rw [← h2]
        exact World.cell?_of_block (w := w) (HS.out.2.1.block bb HB.out.1)
      have HV := Lib.hid hv
      have r1 : (n : Int) < 16 := by omega
      clear hv
      go_wp2_with fail
      go_roundw
      case rel => exact ⟨n + 1, by omega, by go_num, Lib.hid (by have h := HS.out.set n v; rw [HV.out] at h; rw [HV.out]; exact h)⟩
      case measure => simp [intOf]; omega
    · have hn16 : n = 16 := by omega
      have d16 : ¬ ((n : Int) < 16) := by omega
      have HI := Lib.hid (show ChR w g (eD k b (10 - 10)) wr by have h := HS.out; rw [hn16, cp_all HL.out.2.1] at h; exact h)
      clear HS hn16 h16 hn
      go_wp2_with fail
      go_loopw [7] (fun i wr => ∃ t : Nat, t ≤ 10 ∧ i = .int .i64 (t : Int) ∧ Hid (ChR w g (eD k b (10 - t)) wr)) (fun i _ => (intOf i).toNat)
      case atStart => exact ⟨10, by decide, rfl, HI⟩
      case round =>
        clear HI
        obtain ⟨t, ht, rfl, HS⟩ := hrel
        obtain ⟨x, hx⟩ : ∃ x, x = eD k b (10 - t) := ⟨_, rfl⟩
        have HXL := Lib.hid (show x.length = 16 by rw [hx, eD_length k b HL.out.2.1])
        have HX := Lib.hid hx
        rw [← hx] at HS
        clear hx
        obtain ⟨gk, ok, ck, z1, z2, z3⟩ := HB.out.2.2.2 t (by omega)
        have HZ := Lib.hid (show _ ∧ _ ∧ _ from ⟨z1, z2, z3⟩)
        clear z1 z2 z3
        have HG := Lib.hid HS.out.2.2
        have HNE := Lib.hid (show gk ≠ g by have h1 := HS.out.1; have h2 := HZ.out.2.1; omega)
        have HO := Lib.hid (key_on HS.out.2.1 HL.out.2.2.1.1 HB.out.2.2.1 HL.out.2.2.2 HZ.out.1 HZ.out.2.1 HZ.out.2.2)
        have y1 := HO.out.1
        have y2 := HO.out.2.1
        have HRL := Lib.hid (rk_len16 k HL.out.1 t)
        by_cases h1 : 1 ≤ t
        · have d0 : (1 : Int) ≤ (t : Int) := by omega
          obtain ⟨x1, hx1⟩ : ∃ x1, x1 = addL x (rk k t) 16 := ⟨_, rfl⟩
          have HX1 := Lib.hid (show addL x (rk k t) 16 = x1 from hx1.symm)
          have HX1L := Lib.hid (show x1.length = 16 by rw [hx1, addL_length, HXL.out])
          clear hx1
          have r11 : (t : Int) < 11 := by omega
          by_cases h10 : t < 10
          · have d1 : (t : Int) < 10 := by omega
            obtain ⟨x2, hx2⟩ : ∃ x2, x2 = m3 x1 := ⟨_, rfl⟩
            have HX2 := Lib.hid (show m3 x1 = x2 from hx2.symm)
            have HX2L := Lib.hid (show x2.length = 16 by rw [hx2, m3_length])
            have HEND := Lib.hid (show eD k b (10 - (t - 1)) = subL isb (rotL x2 3 16) 16 by rw [eD_mid k b t h1 h10, ← HX.out, HX1.out, HX2.out])
            clear hx2
            go_wp2_with (first
              | (go_at_call 70; ((with_reducible refine (ref_add x (rk k t) g gk ok ck _ HXL.out HRL.out HG.out HO.out.2.2 HNE.out).mono ?_); rintro e w5 ⟨rfl, h1, h2⟩); rw [HX1.out] at h2; have HR5 := Lib.hid h2; have H5 := Lib.hid (show ChR w g x1 w5 from HS.out.turn ⟨h1, h2⟩); clear h1 h2)
              | (go_at_call 71; ((with_reducible refine (ref_mixD x1 g _ HX1L.out HR5.out).mono ?_); rintro e w6 ⟨rfl, h1, h2⟩); rw [HX2.out] at h2; have H6 := Lib.hid (show ChR w g x2 w6 from H5.out.turnB ⟨h1, h2⟩); clear h1 h2)
              | ((with_reducible refine wpList_alloc_b (op := ⟨some 8, _, _, _, _, _⟩) rfl 50 rfl 16 info_s ?_); intro g8 w4 hf hr; have HJ := Lib.hid (show ChB w g g8 x2 (usL isb x2 0) w4 from H6.out.new hf hr); clear hf hr))
            go_loopw [9] (fun i wr => ∃ m : Nat, m ≤ 16 ∧ i = .int .i64 (m : Int) ∧ Hid (ChB w g g8 x2 (usL isb x2 m) wr)) (fun i _ => 16 - (intOf i).toNat)
            case atStart => exact ⟨0, by decide, rfl, HJ⟩
            case round =>
              clear HJ HS
              obtain ⟨m, hm, rfl, HS⟩ := hrel
              by_cases h16 : m < 16
              · obtain ⟨d, hd⟩ : ∃ d, d = m % 4 := ⟨_, rfl⟩
                obtain ⟨q, hq⟩ : ∃ q, q = (m + 4 * d) % 16 := ⟨_, rfl⟩
                obtain ⟨p, hp⟩ : ∃ p, p = x2.getD m 0 := ⟨_, rfl⟩
                obtain ⟨v, hv⟩ : ∃ v, v = isb.getD p.toNat 0 := ⟨_, rfl⟩
                have HV := Lib.hid (show (usL isb x2 m).set q v = usL isb x2 (m + 1) by rw [hv, hp, hq, hd]; rfl)
                have y1 : wr.cell? ⟨g, m, none⟩ = some (.int .u8 (p.toNat : Int)) := by rw [hp]; exact HS.out.1.2.2.cell (by rw [HX2L.out]; omega)
                have y2 : wr.cell? ⟨gc, 256 + p.toNat, none⟩ = some (.int .u8 (v.toNat : Int)) := by
                  have h := (HL.out.2.2.1.on HS.out.1.2.1).2 p.toNat p.toNat_lt
                  rw [hv]
                  exact h
                have hq16 : q < 16 := by omega
                obtain ⟨u, hu⟩ : ∃ u, wr.cell? ⟨g8, q, none⟩ = some u := ⟨_, HS.out.2.2.2.cell (by rw [usL_length]; exact hq16)⟩
                have yf := HS.out.2.2.2.free q
                have hpl := p.toNat_lt
                have r3 : (m : Int) < 16 := by omega
                clear hp hv
                go_wp2_with fail
                have m1 : (m : Int).tmod 4 = (d : Int) := by rw [Int.tmod_eq_emod_of_nonneg (by omega)]; omega
                have m1' : (m : Int) % 4 = (d : Int) := by omega
                have q1 : IntKind.i64.wrap (4 * (d : Int)) = 4 * (d : Int) := by rw [IntKind.wrap_i64]; omega
                have q2 : IntKind.i64.wrap ((m : Int) + 4 * (d : Int)) = (m : Int) + 4 * (d : Int) := by rw [IntKind.wrap_i64]; omega
                have q3 : IntKind.i64.wrap (d : Int) = (d : Int) := by rw [IntKind.wrap_i64]; omega
                have q4 : IntKind.i64.wrap (q : Int) = (q : Int) := by rw [IntKind.wrap_i64]; omega
                have m2 : ((m : Int) + 4 * (d : Int)).tmod 16 = (q : Int) := by rw [Int.tmod_eq_emod_of_nonneg (by omega)]; omega
                have m2' : ((m : Int) + 4 * (d : Int)) % 16 = (q : Int) := by omega
                have r1 : (q : Int) < 16 := by omega
                have r2 : (p.toNat : Int) < 256 := by omega
                clear hd hq
                go_still_tail 15, (by kernel_rfl)
                change wpList _ _ _ _ _ wr.drew
                have hu' : wr.drew.cell? ⟨g8, q, none⟩ = some u := hu
                have yf' : wr.drew.frozen? ⟨g8, q, none⟩ = false := yf
                have HS2 := Lib.hid HS.out.drew
                clear HS y1 y2 hu yf q1 q2 q3 q4 m1 m1' m2 m2'
                generalize wr.drew = w5 at *
                go_wp2_with fail
                go_roundw
                case rel => exact ⟨m + 1, by omega, by go_num, Lib.hid (by rw [← HV.out]; exact HS2.out.set q v)⟩
                case measure => simp [intOf]; omega
              · obtain rfl : m = 16 := by omega
                clear h16 hm
                obtain ⟨y, hy⟩ : ∃ y, y = subL isb (rotL x2 3 16) 16 := ⟨_, rfl⟩
                have HYL := Lib.hid (show y.length = 16 by rw [hy, subL_length, rotL_length])
                rw [us_all isb HX2L.out, ← hy] at HS
                rw [← hy] at HEND
                clear hy
                have HR8 := Lib.hid HS.out.2.2.2.whole
                have HG2 := Lib.hid HS.out.1.2.2
                have hxy : y.length = x2.length := HYL.out.trans HX2L.out.symm
                go_wp2_with (first
                  | (with_reducible refine wpList_load_b (op := ⟨some 55, _, _, _, _, _⟩) rfl 50 (.tmp 8) rfl g8 0 rfl y 16 5 HR8.out Try.underlying50 (sz_s HYL.out) ?_)
                  | ((with_reducible refine wpList_store_all (ty := 50) (x := .tmp 5) (y := .tmp 55) (g := g) (l := x2) (l2 := y) rfl rfl ?hx ?hy HG2.out hxy (sz_s HYL.out) ?_); (case hx => go_simp); (case hy => go_simp); intro w7 hw hr; have H7 := Lib.hid (show ChR w g (eD k b (10 - (t - 1))) w7 by rw [HEND.out]; exact HS.out.1.turn ⟨hw, hr⟩); clear hw hr))
                go_roundw
                case rel => exact ⟨t - 1, by omega, congrArg (Value.int .i64) (by omega), H7⟩
                case measure => (show ((t : Int) - 1).toNat < (t : Int).toNat); omega
          · have d1 : ¬ ((t : Int) < 10) := by omega
            have HEND := Lib.hid (show eD k b (10 - (t - 1)) = subL isb (rotL x1 3 16) 16 by
              have e : t = 10 := by omega
              rw [e] at HX HX1 ⊢
              rw [← HX1.out, HX.out]
              exact eD_first k b)
            go_wp2_with (first
              | (go_at_call 70; ((with_reducible refine (ref_add x (rk k t) g gk ok ck _ HXL.out HRL.out HG.out HO.out.2.2 HNE.out).mono ?_); rintro e w5 ⟨rfl, h1, h2⟩); rw [HX1.out] at h2; have H6 := Lib.hid (show ChR w g x1 w5 from HS.out.turn ⟨h1, h2⟩); clear h1 h2)
              | ((with_reducible refine wpList_alloc_b (op := ⟨some 8, _, _, _, _, _⟩) rfl 50 rfl 16 info_s ?_); intro g8 w4 hf hr; have HJ := Lib.hid (show ChB w g g8 x1 (usL isb x1 0) w4 from H6.out.new hf hr); clear hf hr))
            go_loopw [9] (fun i wr => ∃ m : Nat, m ≤ 16 ∧ i = .int .i64 (m : Int) ∧ Hid (ChB w g g8 x1 (usL isb x1 m) wr)) (fun i _ => 16 - (intOf i).toNat)
            case atStart => exact ⟨0, by decide, rfl, HJ⟩
            case round =>
              clear HJ HS
              obtain ⟨m, hm, rfl, HS⟩ := hrel
              by_cases h16 : m < 16
              · obtain ⟨d, hd⟩ : ∃ d, d = m % 4 := ⟨_, rfl⟩
                obtain ⟨q, hq⟩ : ∃ q, q = (m + 4 * d) % 16 := ⟨_, rfl⟩
                obtain ⟨p, hp⟩ : ∃ p, p = x1.getD m 0 := ⟨_, rfl⟩
                obtain ⟨v, hv⟩ : ∃ v, v = isb.getD p.toNat 0 := ⟨_, rfl⟩
                have HV := Lib.hid (show (usL isb x1 m).set q v = usL isb x1 (m + 1) by rw [hv, hp, hq, hd]; rfl)
                have y1 : wr.cell? ⟨g, m, none⟩ = some (.int .u8 (p.toNat : Int)) := by rw [hp]; exact HS.out.1.2.2.cell (by rw [HX1L.out]; omega)
                have y2 : wr.cell? ⟨gc, 256 + p.toNat, none⟩ = some (.int .u8 (v.toNat : Int)) := by
                  have h := (HL.out.2.2.1.on HS.out.1.2.1).2 p.toNat p.toNat_lt
                  rw [hv]
                  exact h
                have hq16 : q < 16 := by omega
                obtain ⟨u, hu⟩ : ∃ u, wr.cell? ⟨g8, q, none⟩ = some u := ⟨_, HS.out.2.2.2.cell (by rw [usL_length]; exact hq16)⟩
                have yf := HS.out.2.2.2.free q
                have hpl := p.toNat_lt
                have r3 : (m : Int) < 16 := by omega
                clear hp hv
                go_wp2_with fail
                have m1 : (m : Int).tmod 4 = (d : Int) := by rw [Int.tmod_eq_emod_of_nonneg (by omega)]; omega
                have m1' : (m : Int) % 4 = (d : Int) := by omega
                have q1 : IntKind.i64.wrap (4 * (d : Int)) = 4 * (d : Int) := by rw [IntKind.wrap_i64]; omega
                have q2 : IntKind.i64.wrap ((m : Int) + 4 * (d : Int)) = (m : Int) + 4 * (d : Int) := by rw [IntKind.wrap_i64]; omega
                have q3 : IntKind.i64.wrap (d : Int) = (d : Int) := by rw [IntKind.wrap_i64]; omega
                have q4 : IntKind.i64.wrap (q : Int) = (q : Int) := by rw [IntKind.wrap_i64]; omega
                have m2 : ((m : Int) + 4 * (d : Int)).tmod 16 = (q : Int) := by rw [Int.tmod_eq_emod_of_nonneg (by omega)]; omega
                have m2' : ((m : Int) + 4 * (d : Int)) % 16 = (q : Int) := by omega
                have r1 : (q : Int) < 16 := by omega
                have r2 : (p.toNat : Int) < 256 := by omega
                clear hd hq
                go_still_tail 15, (by kernel_rfl)
                change wpList _ _ _ _ _ wr.drew
                have hu' : wr.drew.cell? ⟨g8, q, none⟩ = some u := hu
                have yf' : wr.drew.frozen? ⟨g8, q, none⟩ = false := yf
                have HS2 := Lib.hid HS.out.drew
                clear HS y1 y2 hu yf q1 q2 q3 q4 m1 m1' m2 m2'
                generalize wr.drew = w5 at *
                go_wp2_with fail
                go_roundw
                case rel => exact ⟨m + 1, by omega, by go_num, Lib.hid (by rw [← HV.out]; exact HS2.out.set q v)⟩
                case measure => simp [intOf]; omega
              · obtain rfl : m = 16 := by omega
                clear h16 hm
                obtain ⟨y, hy⟩ : ∃ y, y = subL isb (rotL x1 3 16) 16 := ⟨_, rfl⟩
                have HYL := Lib.hid (show y.length = 16 by rw [hy, subL_length, rotL_length])
                rw [us_all isb HX1L.out, ← hy] at HS
                rw [← hy] at HEND
                clear hy
                have HR8 := Lib.hid HS.out.2.2.2.whole
                have HG2 := Lib.hid HS.out.1.2.2
                have hxy : y.length = x1.length := HYL.out.trans HX1L.out.symm
                go_wp2_with (first
                  | (with_reducible refine wpList_load_b (op := ⟨some 55, _, _, _, _, _⟩) rfl 50 (.tmp 8) rfl g8 0 rfl y 16 5 HR8.out Try.underlying50 (sz_s HYL.out) ?_)
                  | ((with_reducible refine wpList_store_all (ty := 50) (x := .tmp 5) (y := .tmp 55) (g := g) (l := x1) (l2 := y) rfl rfl ?hx ?hy HG2.out hxy (sz_s HYL.out) ?_); (case hx => go_simp); (case hy => go_simp); intro w7 hw hr; have H7 := Lib.hid (show ChR w g (eD k b (10 - (t - 1))) w7 by rw [HEND.out]; exact HS.out.1.turn ⟨hw, hr⟩); clear hw hr))
                go_roundw
                case rel => exact ⟨t - 1, by omega, congrArg (Value.int .i64) (by omega), H7⟩
                case measure => (show ((t : Int) - 1).toNat < (t : Int).toNat); omega
        · have ht0 : t = 0 := by omega
          have d0 : ¬ ((1 : Int) ≤ (t : Int)) := by omega
          obtain ⟨r, hr⟩ : ∃ r, r = decL k b := ⟨_, rfl⟩
          have HR := Lib.hid (show addL x (rk k t) 16 = r by rw [hr, eD_end, HX.out, ht0])
          have HE := Lib.hid (show r.length = 16 by rw [hr]; exact decL_length k b)
          have HQ := Lib.hid (show decL k b = r from hr.symm)
          have hne : (some (⟨g, 0, none⟩ : Addr) : Option Addr) = none → 16 = 0 := fun e => by cases e
          have HNN := Lib.hid hne
          have h16m : 16 ≤ 140737488351300 := by decide
          have H16 := Lib.hid h16m
          rw [show okk + t = okk by omega] at y2
          have HT := Lib.hid ht0
          clear hr hne h16m ht0 HL HB HX
          go_wp2_with (first
            | (go_at_call 70; ((with_reducible refine (ref_add x (rk k t) g gk ok ck _ HXL.out HRL.out HG.out HO.out.2.2 HNE.out).mono ?_); rintro e w5 ⟨rfl, h1, h2⟩); rw [HR.out] at h2; have HS2 := Lib.hid (show ChR w g r w5 from HS.out.turn ⟨h1, h2⟩); have HSZ := Lib.hid (show w.heap.size ≤ w5.heap.size ∧ Below w.heap.size w w5 from ⟨HS2.out.2.1.size, HS2.out.2.1⟩); have HP := Lib.hid (HS2.out.2.2.sees (· < w5.heap.size) HS2.out.2.2.lt); clear h1 h2)
            | (at_builtin; ((with_reducible refine app_bytes_n rfl (.const (.slice none 0 0)) (.tmp 63) 26 rfl w.heap.size 5 i0 (.int .u8 0) Try.underlying26 hi hz0 hz1 hz2 rfl rfl (some ⟨g, 0, none⟩) 16 16 r _ HE.out rfl HNN.out HP.out H16.out HSZ.out.1 ?_); intro v1 w8 ho1 hg1); have H8 := Lib.hid (And.intro ho1 (HSZ.out.2.grown hg1 HSZ.out.1 (fun k e => by cases e))); clear ho1 hg1))
          obtain ⟨A2, c2, rfl, hA2⟩ := own_new16 H8.out.1 HE.out
          have HF := Lib.hid (show MkN w (decL k b) (.returned (.slice A2 16 c2)) w8 from ⟨A2, c2, rfl, by rw [HQ.out]; exact hA2, H8.out.2⟩)
          go_ret
          exact HF.out
theorem ref_mdec (k b : List UInt8) (gc : Nat) (AK A : Option Addr) (cK c : Nat) (w : World) (hk : k.length = 16) (hb : b.length = 16) (ht : TabAt w gc 256 isb)
    (hK : w.cell? ⟨gc, 512, none⟩ = some (.slice AK 11 cK)) (hs : SeesL w w.heap.size AK (keysL k)) (hx : Sees w w.heap.size A (Us b)) :
    Calls Try.prog 53 #[.pointer (some ⟨gc, 0, none⟩), .slice A 16 c] w (Mk16 w (decL k b)) :=
  (ref_mdec_n k b gc AK A cK c w hk hb ht hK hs hx).mono fun _ _ h => h.old

end Go.Proofs.Ytddobbigpoplpaa
