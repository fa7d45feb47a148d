/-
  What is proved here: what the reference's table answers.
-/
import Derived.Test.YtddobbigpoplpaaR1
import Derived.Test.YtddobbigpoplpaaP1
namespace Go.Proofs.Ytddobbigpoplpaa
open Go.RowKit
set_option linter.unusedVariables false

theorem info_x : (Try.prog.info? 55).map (fun i => (i.zero, i.size)) = some (some (.agg (Us (List.replicate 256 0)).toArray), 256) := by kernel_rfl
theorem size_x : (Try.prog.info? 55).map (·.size) = some 256 := by kernel_rfl
theorem sz_x {l : List UInt8} (h : l.length = 256) : (Try.prog.info? 55).map (·.size) = some l.length := by rw [h]; exact size_x
set_option maxRecDepth 100000 in
theorem lg_pw : ∀ n : Fin 255, lgL.getD (pw n.val).toNat 0 = n.val := by decide +kernel
theorem times_3 (n : Nat) (w : World) : Calls Try.prog 45 #[.int .i64 ((pw n).toNat : Int), .int .i64 3] w fun e w' => e = .returned (.int .i64 ((pw (n + 1)).toNat : Int)) ∧ w' = w := by
  have h := ref_times (pw n) 3 w
  rw [gm_3] at h
  exact h
theorem times_246 (n : Nat) (w : World) : Calls Try.prog 45 #[.int .i64 ((pw (254 * n)).toNat : Int), .int .i64 246] w fun e w' => e = .returned (.int .i64 ((pw (254 * (n + 1))).toNat : Int)) ∧ w' = w := by
  have h := ref_times (pw (254 * n)) 246 w
  rw [gm_246] at h
  exact h
theorem sb_len0 : sb.length = (List.replicate 256 (0 : UInt8)).length := by
  rw [sb_length]
  exact (List.length_replicate ..).symm
def TaR (w : World) (g0 g1 : Nat) (l : List UInt8) (wr : World) : Prop := w.heap.size ≤ g0 ∧ w.heap.size ≤ g1 ∧ g0 ≠ g1 ∧ Below w.heap.size w wr ∧ RowB wr g0 (List.replicate 256 0) ∧ RowB wr g1 l
theorem TaR.set {w wr : World} {g0 g1 i : Nat} {l : List UInt8} (h : TaR w g0 g1 l wr) (v : UInt8) : TaR w g0 g1 (l.set i v) (wr.setCell ⟨g1, i, none⟩ (.int .u8 (v.toNat : Int))) := by
  obtain ⟨a, b, c, d, p, q⟩ := h
  exact ⟨a, b, c, d.setCell b _, p.far c _, q.set i v⟩

set_option maxRecDepth 40000 in
set_option maxHeartbeats 2000000 in
theorem ref_table (w : World) : Calls Try.prog 47 #[] w fun e w' => e = .returned (.agg (Us sb).toArray) ∧ Below w.heap.size w w' := by
  go_enter Try.func47, Try.ntmps47
  go_wp2_with (first
    | ((with_reducible refine wpList_alloc_b (op := ⟨some 0, _, _, _, _, _⟩) rfl 55 rfl 256 info_x ?_); intro g0 w1 hf0 hr0; have H0 := Lib.hid (And.intro hf0 hr0); clear hf0 hr0)
    | ((with_reducible refine wpList_alloc_b (op := ⟨some 1, _, _, _, _, _⟩) rfl 55 rfl 256 info_x ?_); intro g1 w2 hf1 hr1; have HI := Lib.hid (show TaR w g0 g1 (tbL 0) w2 from ⟨H0.out.1.ge (Below.refl _ _), hf1.ge (H0.out.1.bl (Below.refl _ _)), H0.out.2.ne hf1, hf1.bl (H0.out.1.bl (Below.refl _ _)), H0.out.2.fresh hf1, hr1⟩); clear hf1 hr1 H0))
  go_loopw [2, 3, 4, 5, 6] (fun p q _ _ _ wr => ∃ n : Nat, n < 255 ∧ p = .int .i64 ((pw n).toNat : Int) ∧ q = .int .i64 ((pw (254 * n)).toNat : Int) ∧ Hid (TaR w g0 g1 (tbL n) wr)) (fun p _ _ _ _ _ => 255 - lgL.getD (intOf p).toNat 0)
  case atStart => exact ⟨0, by decide, rfl, rfl, HI⟩
  case round =>
    clear HI
    obtain ⟨n, hn, rfl, rfl, HS⟩ := hrel
    obtain ⟨p, hp⟩ : ∃ p, p = pw n := ⟨_, rfl⟩
    obtain ⟨q, hq⟩ : ∃ q, q = pw (254 * n) := ⟨_, rfl⟩
    obtain ⟨p2, hp2⟩ : ∃ p, p = pw (n + 1) := ⟨_, rfl⟩
    obtain ⟨q2, hq2⟩ : ∃ q, q = pw (254 * (n + 1)) := ⟨_, rfl⟩
    obtain ⟨v, hv⟩ : ∃ v, v = sb.getD p.toNat 0 := ⟨_, rfl⟩
    obtain ⟨l, hl⟩ : ∃ l, l = tbL n := ⟨_, rfl⟩
    have HC3 := Lib.hid (fun (w : World) => (show Calls Try.prog 45 #[.int .i64 (p.toNat : Int), .int .i64 3] w fun e w' => e = .returned (.int .i64 (p2.toNat : Int)) ∧ w' = w by rw [hp, hp2]; exact times_3 n w))
    have HC6 := Lib.hid (fun (w : World) => (show Calls Try.prog 45 #[.int .i64 (q.toNat : Int), .int .i64 246] w fun e w' => e = .returned (.int .i64 (q2.toNat : Int)) ∧ w' = w by rw [hq, hq2]; exact times_246 n w))
    have HAF := Lib.hid (show afI q.toNat 8 = (v.toNat : Int) by rw [hv, hp, hq]; exact af_254 n hn)
    have HLL := Lib.hid (show l.length = 256 by rw [hl]; exact tbL_length n)
    have HLN := Lib.hid (show l.set p.toNat v = tbL (n + 1) by rw [hl, hv, hp]; rfl)
    have HM := Lib.hid (show lgL.getD p.toNat 0 = n by rw [hp]; exact lg_pw ⟨n, hn⟩)
    have HM2 := Lib.hid (show n + 1 < 255 → lgL.getD p2.toNat 0 = n + 1 from fun h => by rw [hp2]; exact lg_pw ⟨n + 1, h⟩)
    have HP2 := Lib.hid (show p2 = 1 ↔ n + 1 = 255 by rw [hp2]; exact pw_one ⟨n, hn⟩)
    have HE := Lib.hid (And.intro hp2 hq2)
    rw [← hl] at HS
    rw [← hp, ← hq]
    have hpl := p.toNat_lt
    have hql := q.toNat_lt
    have hvl := v.toNat_lt
    clear hp hq hp2 hq2 hv hl
    go_wp2_with fail
    go_loop [4, 5, 6] (fun o i _ => ∃ k : Nat, k ≤ 8 ∧ i = .int .i64 (k : Int) ∧ o = .int .i64 (afI q.toNat k)) (fun _ i _ => 8 - (intOf i).toNat)
    case atStart => exact ⟨0, by decide, rfl, rfl⟩
    case round =>
      obtain ⟨k, hk, rfl, ho⟩ := hrel
      obtain ⟨z, hz⟩ : ∃ z, z = afI q.toNat k := ⟨_, rfl⟩
      rw [← hz] at ho
      subst ho
      have HZ := Lib.hid hz
      clear hz
      by_cases h8 : k < 8
      · go_wp2
        go_round
        case rel => exact ⟨k + 1, by omega, by go_num, by rw [afI, ← HZ.out]; rfl⟩
        case measure => simp [intOf]; omega
      · obtain rfl : k = 8 := by omega
        have hz : z = (v.toNat : Int) := HZ.out.trans HAF.out
        subst hz
        clear HZ HAF h8 hk
        have y1 := HS.out.2.2.2.2.2.cell (k := p.toNat) (by rw [HLL.out]; exact hpl)
        have yf := HS.out.2.2.2.2.2.free p.toNat
        have e1 : (v.toNat : Int) % 256 = (v.toNat : Int) := by omega
        have r1 : (p.toNat : Int) < 256 := by omega
        have hp2l := p2.toNat_lt
        by_cases h255 : n + 1 = 255
        · have h1 : p2 = 1 := HP2.out.2 h255
          have d1 : ((p2.toNat : Int) == 1) = true := by rw [h1]; rfl
          have HT := Lib.hid (show TaR w g0 g1 ((l.set p.toNat v).set 0 99) ((wr.setCell ⟨g1, p.toNat, none⟩ (.int .u8 (v.toNat : Int))).setCell ⟨g1, 0, none⟩ (.int .u8 99)) from (HS.out.set v).set 99)
          have y2 := (HS.out.set (i := p.toNat) v).2.2.2.2.2.cell (k := 0) (by rw [List.length_set, HLL.out]; decide)
          have yf2 := (HS.out.set (i := p.toNat) v).2.2.2.2.2.free 0
          have HSB := Lib.hid (show (l.set p.toNat v).set 0 99 = sb by rw [HLN.out, h255]; exact tb_all)
          have HRG := Lib.hid (show ((wr.setCell ⟨g1, p.toNat, none⟩ (.int .u8 (v.toNat : Int))).setCell ⟨g1, 0, none⟩ (.int .u8 99)).rangeAt g1 0 (Us sb) from by have := HT.out.2.2.2.2.2.whole; rw [HSB.out] at this; exact this)
          have HR0 := Lib.hid (show RowB ((wr.setCell ⟨g1, p.toNat, none⟩ (.int .u8 (v.toNat : Int))).setCell ⟨g1, 0, none⟩ (.int .u8 99)) g0 (List.replicate 256 0) from HT.out.2.2.2.2.1)
          clear h1 h255 HM HM2 HP2 HE HS HSB
          go_wp2_with (first
            | (go_at_call 45; ((with_reducible refine (HC3.out _).mono ?_); rintro e w5 ⟨rfl, rfl⟩))
            | (go_at_call 45; ((with_reducible refine (HC6.out _).mono ?_); rintro e w6 ⟨rfl, rfl⟩))
            | (with_reducible refine wpList_load_b (op := ⟨some 65, _, _, _, _, _⟩) rfl 55 (.tmp 1) rfl g1 0 rfl sb 256 5 HRG.out Try.underlying55 (sz_x sb_length) ?_)
            | ((with_reducible refine wpList_store_all (ty := 55) (x := .tmp 0) (y := .tmp 65) (g := g0) (l := List.replicate 256 0) (l2 := sb) rfl rfl ?hx ?hy HR0.out sb_len0 (sz_x sb_length) ?_); (case hx => go_simp); (case hy => go_simp); intro w7 hw hr; have H7 := Lib.hid (And.intro hw hr); clear hw hr))
          exact bodyPost_ret (results_b rfl _ _ g0 sb 256 5 rfl H7.out.2 Try.underlying55 (sz_x sb_length)) rfl ⟨rfl, H7.out.1.bl HT.out.2.2.2.1 HT.out.1⟩
        · have h1 : p2 ≠ 1 := fun h => h255 (HP2.out.1 h)
          have d1 : ((p2.toNat : Int) == 1) = false := by
            have : p2.toNat ≠ 1 := fun h => h1 (UInt8.toNat_inj.1 h)
            simp
            omega
          clear h1 HP2
          go_wp2_with (first
            | (go_at_call 45; ((with_reducible refine (HC3.out _).mono ?_); rintro e w5 ⟨rfl, rfl⟩))
            | (go_at_call 45; ((with_reducible refine (HC6.out _).mono ?_); rintro e w6 ⟨rfl, rfl⟩)))
          go_roundw
          case rel => exact ⟨n + 1, by omega, by rw [HE.out.1], by rw [HE.out.2], Lib.hid (by rw [← HLN.out]; exact HS.out.set v)⟩
          case measure =>
            show 255 - lgL.getD ((p2.toNat : Int)).toNat 0 < 255 - lgL.getD ((p.toNat : Int)).toNat 0
            rw [Int.toNat_natCast, Int.toNat_natCast, HM.out, HM2.out (by omega)]
            omega

end Go.Proofs.Ytddobbigpoplpaa
