/-
  What is proved here: what write gives: lines in a block of their own.
-/
import Derived.Test.YtdlcoilpkelbaaaGreatDoorY4
namespace Go.Proofs.YtdlcoilpkelbaaaGreatDoor
open Go.RowKit Go.Maps
set_option linter.unusedVariables false

/-- lines that lie in a block made since then -/
def StrsM (w w' : World) (A : Option Addr) (ls : List (List UInt8)) : Prop := Strs w' A ls ∧ (ls = [] ∨ ∃ g, A = some ⟨g, 0, none⟩ ∧ w.heap.size ≤ g ∧ RowV w' g (strV ls))
theorem StrsM.up {w v w' : World} {A : Option Addr} {ls : List (List UInt8)} (h : StrsM v w' A ls) (hb : w.heap.size ≤ v.heap.size) : StrsM w w' A ls := ⟨h.1, h.2.imp id fun ⟨g, e, h1, h2⟩ => ⟨g, e, Nat.le_trans hb h1, h2⟩⟩
set_option maxHeartbeats 1600000 in
set_option maxRecDepth 20000 in
theorem p_writeM (f : Int) (h : 1 ≤ f ∧ f ≤ 3) (mb n : Nat) (T : Nat → List UInt8) (w : World) (hm : MapIs w mb n T) :
    Calls Tryz.prog 31 #[.agg (layV f).toArray, .map (some mb)] w fun e w' => ∃ A, e = .returned (.slice A (cntN f) (cntN f)) ∧ StrsM w w' A (linesT f T) ∧ Below w.heap.size w w' := by
  have HH := Lib.hid (show _ ∧ _ from ⟨h, hm⟩)
  have HC := Lib.hid (lay_cnt h)
  obtain ⟨ct, hct⟩ : ∃ ct, cntN f = ct := ⟨_, rfl⟩
  obtain ⟨wd, hwd⟩ : ∃ wd, widN f = wd := ⟨_, rfl⟩
  have hc3 : ct = 2 ∨ ct = 3 := by rw [← hct]; unfold cntN; repeat (first | omega | split)
  have hw1 : 1 ≤ wd ∧ wd ≤ 64 := by rw [← hwd]; unfold widN; repeat (first | omega | split)
  rw [hct, hwd] at HC
  rw [hct]
  have HE := Lib.hid (show _ ∧ _ from ⟨hct, hwd⟩)
  clear h hm hct hwd
  have hcv := conv_lit
  have HO := Lib.hid (Own.start w)
  go_enter Tryz.func31, Tryz.ntmps31
  go_wp2_with (first
    | ((with_reducible refine at_box_ (d := 2) ?_); refine wpList_box_v (op := ⟨some 2, _, _, _, _, _⟩) rfl 57 _ rfl (layV f) rfl ?_; intro g2 v2b hf hr; replace HO := Lib.hid (HO.out.new hf hr); clear hf hr)
    | ((with_reducible refine at_load_ (d := 14) ?_); refine wpList_load_c rfl _ _ rfl g2 1 rfl (.int .i64 (ct : Int)) (((HO.out.row (i := 0) rfl).cell 1).trans HC.out.1) (fun w => by kernel_rfl) ?_)
    | ((with_reducible refine at_make_ (d := 15) ?_); refine wpList_make_v rfl _ _ _ rfl _ _ rfl rfl (List.replicate ct (Value.slice none 0 0)) ct _ (mk_rows ct hc3 _) ?_; intro gr vr hf hr; replace HO := Lib.hid (HO.out.new hf hr); clear hf hr))
  have hc4 : ct ≤ 3 := by rcases hc3 with h | h <;> omega
  have HD := Lib.hid hc3
  clear hc3
  go_loopw [18] (fun i wr => ∃ (k : Nat) (gi : Nat → Nat) (ex : Nat → List Value), k ≤ ct ∧ i = .int .i64 (k : Int) ∧ Hid (Own w wr ([(g2, layV f), (gr, slV gi wd k ct)] ++ rowsL gi (fun _ => List.replicate wd 60) ex k))) (fun i _ => ct - (intOf i).toNat)
  case atStart => exact ⟨0, fun _ => 0, fun _ => [], by omega, rfl, Lib.hid (by rw [slV_zero]; simpa [rowsL] using HO.out)⟩
  case round =>
    obtain ⟨k, gi, ex, hk, rfl, HO⟩ := hrel
    by_cases hlt : k < ct
    · go_wp2_with (first
    | ((with_reducible refine at_load_ (d := 26) ?_); refine wpList_load_c rfl _ _ rfl g2 2 rfl (.int .i64 (wd : Int)) (((Own.on HO.out ((Below.refl _ _).alloc (Nat.le_refl _) _)).row (i := 0) rfl |>.cell 2).trans HC.out.2) (fun w => by kernel_rfl) ?_)
    | (go_at_call 78; ((with_reducible refine (p_brep wd hw1.1 hw1.2 _ _ _ (cell_lit _)).mono ?_); rintro e w1 ⟨gn, en, rfl, hge, hr, hb⟩); replace HO := Lib.hid ((HO.out.on ((Below.refl _ _).alloc (Nat.le_refl _) _)).add hb hr hge); clear hb hr hge)
    | ((with_reducible refine at_store_ (i := 28) ?_); refine wpList_store_at rfl _ (.tmp 28) _ rfl gr k (slV gi wd k ct) (.slice (some ⟨gn, 0, none⟩) wd wd) rfl rfl (HO.out.row (i := 1) rfl) (by rw [slV_len]; exact hlt) rfl rfl size_sb ?_; intro w3 hw hr; replace HO := Lib.hid (HO.out.set (i := 1) rfl hw hr); clear hw hr))
      go_roundw
      case rel =>
        refine ⟨k + 1, atN gi k gn, atN ex k en, by omega, by go_num, Lib.hid ?_⟩
        have h1 := HO.out
        rw [slV_set hlt] at h1
        have h2 : ([(g2, layV f), (gr, slV (atN gi k gn) wd (k + 1) ct)] ++ rowsL gi (fun _ => List.replicate wd 60) ex k) ++ [(gn, Us (List.replicate wd 60) ++ en)] = [(g2, layV f), (gr, slV (atN gi k gn) wd (k + 1) ct)] ++ rowsL (atN gi k gn) (fun _ => List.replicate wd 60) (atN ex k en) (k + 1) := by
          rw [rowsL_add]
          congr 1
          exact rowsL_congr fun i _ => by unfold atN; split <;> rfl
        rw [← h2]
        exact h1
      case measure => simp [intOf]; omega
    · obtain rfl : k = ct := by omega
      go_wp2_with ((with_reducible refine at_range_ ?_); refine wpList_range_m rfl (.tmp 30) rfl mb n T rfl (HH.out.2.on HO.out.bl) ?_; intro w5 lf c5 hrg hlf hb5; have HR := Lib.hid (OwnR.start HO.out hb5 hrg (HH.out.2.lt)); have HLF := Lib.hid hlf; clear hrg hlf hb5)
      have hrow : rowsL gi (fun _ => List.replicate wd 60) ex k = rowsL gi (rowF f T lf) ex k := rowsL_congr fun i hi => by
        rw [rowF_start HH.out.1 T lf HLF.out (by rw [HE.out.1]; exact hi), HE.out.2]
      replace HR : Hid (OwnR w w5 ([(g2, layV f), (gr, slV gi wd k k)] ++ rowsL gi (rowF f T lf) ex k) mb wr.heap.size n T lf c5) := Lib.hid (by rw [← hrow]; exact HR.out)
      clear hrow
      go_frame
      obtain ⟨r, hr⟩ : ∃ r, wr.heap.size = r := ⟨_, rfl⟩
      rw [hr] at HR ⊢
      have HO1 := Lib.hid (HO.out.ge (i := 0) rfl)
      clear hr
      go_loopw [] (fun wq => ∃ (lf : Nat → Bool) (c : Nat), Hid (OwnR w wq ([(g2, layV f), (gr, slV gi wd k k)] ++ rowsL gi (rowF f T lf) ex k) mb r n T lf c)) (fun wq => wq.rangeLeft mb r)
      case atStart => exact ⟨lf, c5, HR⟩
      case round =>
        clear HLF HR HO
        clear lf c5
        obtain ⟨lf, c, HR⟩ := hrel
        go_wp2_with ((with_reducible refine at_next_ ?_); refine wpList_next_m rfl (.tmp 31) rfl mb r n T lf c rfl HR.out.2.1 ?_ ?_)
        · intro hdone
          have hrow : rowsL gi (rowF f T lf) ex k = rowsL gi (fun i => lineT (segs f i) T) ex k := rowsL_congr fun i hi => rowF_end HH.out.1 T lf hdone (by omega)
          have HO : Hid (Own w wr ([(g2, layV f), (gr, slV gi wd k k)] ++ rowsL gi (fun i => lineT (segs f i) T) ex k)) := Lib.hid (by rw [← hrow]; exact HR.out.1)
          clear hrow hdone HR
          clear c lf
          obtain ⟨L, hL⟩ : ∃ L, [(g2, layV f), (gr, slV gi wd k k)] ++ rowsL gi (fun i => lineT (segs f i) T) ex k = L := ⟨_, rfl⟩
          rw [hL] at HO
          have HL : Hid (L[0]? = some (g2, layV f) ∧ L[1]? = some (gr, slV gi wd k k) ∧ ∀ i, i < k → L[2 + i]? = some (gi i, Us (lineT (segs f i) T) ++ ex i)) := Lib.hid (by rw [← hL]; exact ⟨rfl, rfl, fun i hi => rowsL_at (A := [(g2, layV f), (gr, slV gi wd k k)]) hi⟩)
          obtain ⟨ls, hls⟩ : ∃ ls, linesT f T = ls := ⟨_, rfl⟩
          have HS : Hid (ls.length = k ∧ ∀ i, i < k → ls.getD i [] = lineT (segs f i) T ∧ (lineT (segs f i) T).length = wd) := Lib.hid (by
            refine ⟨by rw [← hls, linesT_len, HE.out.1], fun i hi => ⟨by rw [← hls]; exact linesT_get f T (by rw [HE.out.1]; exact hi), ?_⟩⟩
            rw [lineT_len, seg_sum HH.out.1 (by rw [HE.out.1]; exact hi), HE.out.2])
          have HLS := Lib.hid hls
          clear hL hls
          go_wp2_with (first
    | ((with_reducible refine at_load_ (d := 54) ?_); refine wpList_load_c rfl _ _ rfl g2 1 rfl (.int .i64 (k : Int)) (((HO.out.row (i := 0) HL.out.1).cell 1).trans HC.out.1) (fun w => by kernel_rfl) ?_)
    | ((with_reducible refine at_make_ (d := 55) ?_); refine wpList_make_v rfl _ _ _ rfl _ _ rfl rfl (List.replicate k (Value.string ⟨#[]⟩)) k _ (mk_strs k HD.out _) ?_; intro gs vs hf hr; replace HO := Lib.hid (HO.out.new hf hr); clear hf hr))
          go_loopw [58] (fun i wq => ∃ (j : Nat), j ≤ k ∧ i = .int .i64 (j : Int) ∧ Hid (Own w wq (L ++ [(gs, svV ls j k)]))) (fun i _ => k - (intOf i).toNat)
          case atStart => exact ⟨0, by omega, rfl, Lib.hid (by rw [svV_zero]; exact HO.out)⟩
          case round =>
            clear HO
            obtain ⟨j, hj, rfl, HO⟩ := hrel
            by_cases hlt : j < k
            · have hj0 : (j : Int) < (k : Int) := by omega
              have hsl := HS.out.2 j hlt
              have hcw := run_conv wr wr.heap.size (some ⟨gi j, 0, none⟩) (lineT (segs f j) T) (HO.out.row (pre_get (HL.out.2.2 j hlt))).sees wd wd hsl.2.symm
              rw [← hsl.1] at hcw
              clear hsl
              go_wp2_with (first
    | ((with_reducible refine at_load_ (d := 62) ?_); refine wpList_load_c rfl _ _ rfl gr j rfl (.slice (some ⟨gi j, 0, none⟩) wd wd) (((HO.out.row (pre_get HL.out.2.1)).cell j).trans (slV_get hlt (Nat.le_refl _))) (fun w => by kernel_rfl) ?_)
    | ((with_reducible refine at_store_ (i := 67) ?_); refine wpList_store_at rfl _ (.tmp 67) _ rfl gs j (svV ls j k) (.string (S (ls.getD j []))) rfl rfl (HO.out.row (last_get _ _)) (by rw [svV_len]; exact hlt) rfl rfl size_st ?_; intro w7 hw hr; replace HO := Lib.hid (HO.out.set (last_get _ _) hw hr); clear hw hr))
              go_roundw
              case rel =>
                refine ⟨j + 1, by omega, by go_num, Lib.hid ?_⟩
                have h1 := HO.out
                rw [last_set, svV_set hlt] at h1
                exact h1
              case measure => simp [intOf]; omega
            · obtain rfl : j = k := by omega
              go_wp2
              go_ret
              refine ⟨_, rfl, ?_, HO.out.bl⟩
              have h1 := HO.out.row (last_get _ _)
              rw [svV_all HS.out.1] at h1
              rw [HLS.out]
              exact ⟨h1.sees0, .inr ⟨gs, rfl, HO.out.ge (last_get _ _), h1⟩⟩
        · intro q w6 c6 hq hlq hTl hrg hcl hgr hen
          have HE2 := Lib.hid (show wr.rangeLeft mb r = c ∧ c6 < c from ⟨HR.out.2.1.left_eq, hcl⟩)
          replace HR := Lib.hid (HR.out.next hrg hgr)
          have HQ := Lib.hid (show _ ∧ _ from ⟨hq, hlq⟩)
          have q0 : (q : Int) < 15 := by omega
          obtain ⟨L, hL⟩ : ∃ L, [(g2, layV f), (gr, slV gi wd k k)] ++ rowsL gi (rowF f T lf) ex k = L := ⟨_, rfl⟩
          rw [hL] at HR
          have HL := Lib.hid (show L[0]? = some (g2, layV f) ∧ L[1]? = some (gr, slV gi wd k k) from by rw [← hL]; exact ⟨rfl, rfl⟩)
          have HLL := Lib.hid hL
          have h61 : 4 + q * 3 + 3 ≤ (layV f).length := by rw [layV_len HH.out.1]; omega
          have hpart := lay_part HH.out.1 hq
          have HPP := Lib.hid (show _ ∧ _ from ⟨h61, hpart⟩)
          clear hL hrg hcl hgr hlq hTl h61 hpart hq
          go_wp2_with (first
    | ((with_reducible refine at_load_ (d := 40) ?_); refine wpList_load_part rfl 53 _ rfl g2 (4 + q * 3) rfl (layV f) 3 (plcV (plc f q)) _ (HR.out.1.row (i := 0) HL.out.1) HPP.out.1 HPP.out.2 Tryz.underlying53 rfl size_p ?_)
    | ((with_reducible refine at_alloc_ (d := 9) ?_); refine wpList_alloc_v rfl 53 rfl plc0 info_p ?_; intro g9 v9 hf hr; replace HR := Lib.hid (HR.out.new hf hr); clear hf hr)
    | ((with_reducible refine at_store_ (i := 9) ?_); refine wpList_store_v rfl 53 (.tmp 9) (.tmp 40) rfl g9 plc0 (plcV (plc f q)) rfl rfl (HR.out.1.row (i := L.length) (last_get _ _)) rfl (plcV_one _) size_p ?_; intro v10 hw hr; replace HR := Lib.hid (HR.out.set (i := L.length) (last_get _ _) hw hr); clear hw hr))
          replace HR : Hid (OwnR w v10 (L ++ [(g9, plcV (plc f q))]) mb r n T (fun j => lf j && !(j == q)) c6) := Lib.hid (by have := HR.out; rwa [last_set] at this)
          obtain ⟨ln, fr, en, hp⟩ : ∃ ln fr en, plc f q = (ln, fr, en) := ⟨_, _, _, rfl⟩
          have hpo := plc_ok HH.out.1 HQ.out.1
          have hpl := plc_lt HH.out.1 HQ.out.1
          rw [hp, HE.out.1, HE.out.2] at hpo
          rw [hp, HE.out.2] at hpl
          obtain ⟨o1, o2, o3⟩ := hpo
          rw [hp] at HR
          have HLN : Hid (L[2 + ln]? = some (gi ln, Us (rowF f T lf ln) ++ ex ln)) := Lib.hid (by rw [← HLL.out]; exact rowsL_at (A := [(g2, layV f), (gr, slV gi wd k k)]) o1)
          obtain ⟨y, hy⟩ : ∃ y, (T q).take (en - fr) = y := ⟨_, rfl⟩
          have HY : Hid (fr + y.length ≤ (rowF f T lf ln).length ∧ splice (rowF f T lf ln) fr y = rowF f T (fun j => lf j && !(j == q)) ln) := Lib.hid (by
            have hrl := rowF_len HH.out.1 T lf (i := ln) (by rw [HE.out.1]; exact o1)
            have hput := rowF_put HH.out.1 T lf HQ.out.1 HQ.out.2
            rw [hp] at hput
            refine ⟨?_, by rw [← hy]; exact hput⟩
            rw [hrl, HE.out.2, ← hy, List.length_take]
            simp only at o2 o3
            omega)
          simp only at o1 o2 o3 hpl
          clear hen
          have HX1 : Hid (∀ b : Bool, (if b = true then L.set (2 + ln) (gi ln, Us (rowF f T (fun j => lf j && !(j == q)) ln) ++ ex ln) else L)[1]? = some (gr, slV gi wd k k)) := Lib.hid (fun b => by
            cases b
            · exact HL.out.2
            · show (L.set (2 + ln) _)[1]? = _
              rw [List.getElem?_set_ne (by omega)]; exact HL.out.2)
          refine region_setC (by kernel_rfl) _ (fun (_ : Unit) i => [Value.slice (some ⟨gr, 0, none⟩) k k, .pointer (some ⟨g9, 0, none⟩), .int .i64 (ln : Int), .pointer (some ⟨gr, ln, none⟩), .slice (some ⟨gi ln, 0, none⟩) wd wd, .pointer (some ⟨g9, 1, none⟩), .int .i64 (fr : Int), .pointer (some ⟨g9, 2, none⟩), .int .i64 (en : Int), .slice (some ⟨gi ln, fr, none⟩) (en - fr) (wd - fr), .string (S (T q)), goInt y.length].getD i undef)
            (fun _ S cur => OwnR w cur ((if S 11 = true then L.set (2 + ln) (gi ln, Us (rowF f T (fun j => lf j && !(j == q)) ln) ++ ex ln) else L) ++ [(g9, plcV (ln, fr, en))]) mb r n T (fun j => lf j && !(j == q)) c6) (by kernel_rfl) () (HR.out.on (below_drewN _ _ 1)) ?_ ?_
          · refine ops_all (allI.cons ?_ (allI.cons ?_ (allI.cons ?_ (allI.cons ?_ (allI.cons ?_ (allI.cons ?_ (allI.cons ?_ (allI.cons ?_ (allI.cons ?_ (allI.cons ?_ (allI.cons ?_ (allI.cons ?_ allI.nil)))))))))))) <;> intro b S cur a hW hSi hdep hS hC <;> refine ⟨(), fun _ _ => rfl, ?_⟩
            · exact o_mv (.tmp 5) rfl (hS.before hC hSi 5 rfl) ⟨rfl, by simpa using hW⟩
            · exact o_fa _ (.tmp 9) 0 rfl (hS.before hC hSi 9 rfl) (fa_plc0 g9 _) ⟨rfl, by simpa using hW⟩
            · exact o_ld _ (.tmp 42) rfl (hS.get 1 (dep_at hdep 1 rfl) rfl rfl) ((hW.1.row (last_get _ _)).cell 0) (fun w => by kernel_rfl) ⟨rfl, by simpa using hW⟩
            · exact o_ix _ (.tmp 41) (.tmp 43) rfl (hS.get 0 (dep_at hdep 0 rfl) rfl rfl) (hS.get 2 (dep_at hdep 2 rfl) rfl rfl) (ix_rows gr k ln o1 _) ⟨rfl, by simpa using hW⟩
            · exact o_ld _ (.tmp 44) rfl (hS.get 3 (dep_at hdep 3 rfl) rfl rfl) (((hW.1.row (pre_get (HX1.out _))).cell ln).trans (slV_get o1 (Nat.le_refl _))) (fun w => by kernel_rfl) ⟨rfl, by simpa using hW⟩
            · exact o_fa _ (.tmp 9) 1 rfl (hS.before hC hSi 9 rfl) (fa_plc1 g9 _) ⟨rfl, by simpa using hW⟩
            · exact o_ld _ (.tmp 46) rfl (hS.get 5 (dep_at hdep 5 rfl) rfl rfl) ((hW.1.row (last_get _ _)).cell 1) (fun w => by kernel_rfl) ⟨rfl, by simpa using hW⟩
            · exact o_fa _ (.tmp 9) 2 rfl (hS.before hC hSi 9 rfl) (fa_plc2 g9 _) ⟨rfl, by simpa using hW⟩
            · exact o_ld _ (.tmp 48) rfl (hS.get 7 (dep_at hdep 7 rfl) rfl rfl) ((hW.1.row (last_get _ _)).cell 2) (fun w => by kernel_rfl) ⟨rfl, by simpa using hW⟩
            · exact o_sl _ (.tmp 45) (some (.tmp 47)) (some (.tmp 49)) none rfl (hS.get 4 (dep_at hdep 4 rfl) rfl rfl) (congrArg some (hS.get 6 (dep_at hdep 6 rfl) rfl rfl)) (congrArg some (hS.get 8 (dep_at hdep 8 rfl) rfl rfl)) rfl (sl_row (gi ln) fr en wd o2 o3 hpl hw1.2 _) ⟨rfl, by simpa using hW⟩
            · exact o_mv (.tmp 8) rfl (hS.before hC hSi 8 rfl) ⟨rfl, by simpa using hW⟩
            · rw [hSi] at hW
              replace hW : OwnR w cur (L ++ [(g9, plcV (ln, fr, en))]) mb r n T (fun j => lf j && !(j == q)) c6 := hW
              refine o_copy_s (.tmp 50) (.tmp 51) _ _ rfl 5 Tryz.underlying47 (by kernel_rfl) (gi ln) fr (en - fr) (wd - fr) (T q) y hy (hS.get 9 (dep_at hdep 9 rfl) rfl rfl) (hS.get 10 (dep_at hdep 10 rfl) rfl rfl) _ (hW.1.row (pre_get HLN.out)) (by rw [List.length_append, Us_length]; have := HY.out.1; omega) ?_
              intro w' hw hr
              refine ⟨rfl, ?_⟩
              rw [splice_Us HY.out.1, HY.out.2] at hr
              have h1 := hW.set (pre_get HLN.out) hw hr
              rw [pre_set HLN.out] at h1
              simpa using h1
          · intro b cur S hall hW
            rw [hall 11 (by decide)] at hW
            simp only [putAll, Act.put, goInt]
            simp
            go_wp2
            go_roundw
            case rel =>
              have h1 : OwnR w cur (L.set (2 + ln) (gi ln, Us (rowF f T (fun j => lf j && !(j == q)) ln) ++ ex ln)) mb r n T (fun j => lf j && !(j == q)) c6 := OwnR.pre hW
              refine ⟨fun j => lf j && !(j == q), c6, Lib.hid ?_⟩
              have h2 : L.set (2 + ln) (gi ln, Us (rowF f T (fun j => lf j && !(j == q)) ln) ++ ex ln) = [(g2, layV f), (gr, slV gi wd k k)] ++ rowsL gi (rowF f T (fun j => lf j && !(j == q))) ex k := by
                rw [← HLL.out]
                exact rowsL_set (A := [(g2, layV f), (gr, slV gi wd k k)]) o1 fun i hi hne => rowF_other HH.out.1 T lf HQ.out.1 (by rw [HE.out.1]; exact hi) HQ.out.2 (by rw [hp]; exact hne)
              rw [← h2]
              exact h1
            case measure =>
              rw [hW.2.1.left_eq, HE2.out.1]; exact HE2.out.2
end Go.Proofs.YtdlcoilpkelbaaaGreatDoor
