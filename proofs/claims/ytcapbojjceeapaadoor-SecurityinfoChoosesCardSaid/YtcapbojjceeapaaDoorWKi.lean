/-
  What is proved here: the newest info of a protocol, by the program.
-/
import Derived.Test.YtcapbojjceeapaaDoorWKh
namespace Go.Proofs.YtcapbojjceeapaaDoor
open Go.RowKit
set_option maxRecDepth 8000
set_option linter.unusedVariables false
set_option linter.unusedSimpArgs false
theorem newI_app (q : Int) : ∀ (a c : List Im) (b : Im), newI q b (a ++ c) = newI q (newI q b a) c
  | [], _, _ => rfl
  | _ :: r, c, _ => newI_app q r c _
theorem newI_snoc {q : Int} {l : List Im} {j : Nat} {x : Im} (h : l[j]? = some x) : newI q zerI (l.take (j + 1)) = if x.p = q ∧ (newI q zerI (l.take j)).v < x.v then x else newI q zerI (l.take j) := by
  have e : l.take (j + 1) = l.take j ++ [x] := by rw [List.take_add_one, h]; rfl
  rw [e, newI_app]
  rfl
set_option maxHeartbeats 3200000 in
theorem p_newest (l : List Im) (n : Nat) (hn : l.length = n) (hm : n ≤ 140737488351232) (q : Int) (A : Option Addr) (ca : Nat) (w : World) (hs : SeesP w (· < w.heap.size) A (Ics l)) :
    Calls Tryd.prog 42 #[.slice A n ca, .int .i64 q] w fun e w' => e = .returned (.tuple #[.agg (newI q zerI l).cs.toArray, .bool (decide (0 < (newI q zerI l).v))]) ∧ Below w.heap.size w w' := by
  have HS := Lib.hid (show _ ∧ _ from ⟨hs, hn⟩)
  have HB := Lib.hid (Below.refl w.heap.size w)
  obtain ⟨N, hN⟩ : ∃ z, newI q zerI l = z := ⟨_, rfl⟩
  rw [hN]
  have HNW := Lib.hid hN
  clear hs hn hN
  go_enter Tryd.func42, Tryd.ntmps42
  go_wp2_with (first
    | ((with_reducible refine at_alloc_ (d := 4) ?_); refine wpList_alloc_v (op := ⟨some 4, _, _, _, _, _⟩) rfl 44 rfl zerX info_x ?_; intro g4 w1 hf hr; have H1 := Lib.hid (show _ ∧ _ ∧ _ from ⟨hf.bl HB.out, hr, hf.ge HB.out⟩); clear hf hr)
    | ((with_reducible refine at_alloc_ (d := 6) ?_); refine wpList_alloc_v (op := ⟨some 6, _, _, _, _, _⟩) rfl 44 rfl zerX info_x ?_; intro g6 w2 hf hr; have H2 := Lib.hid (show Below w.heap.size w w2 ∧ RowV w2 g4 zerX ∧ RowV w2 g6 zerI.cs from ⟨hf.bl H1.out.1, H1.out.2.1.fresh hf, hr⟩); have HG4 := Lib.hid (show w.heap.size ≤ g4 ∧ g6 ≠ g4 from ⟨H1.out.2.2, (H1.out.2.1.ne hf).symm⟩); have HG6 := Lib.hid (show w.heap.size ≤ g6 ∧ g4 ≠ g6 from ⟨hf.ge H1.out.1, H1.out.2.1.ne hf⟩); clear hf hr))
  go_loopw [11] (fun i wr => ∃ (j : Nat), j ≤ n ∧ i = .int .i64 (j : Int) ∧ Hid (∃ z, Below w.heap.size w wr ∧ RowV wr g4 zerX ∧ RowV wr g6 z.cs ∧ newI q zerI (l.take j) = z)) (fun i _ => n - (intOf i).toNat)
  case atStart => exact ⟨0, by omega, rfl, Lib.hid ⟨zerI, H2.out.1, H2.out.2.1, H2.out.2.2, rfl⟩⟩
  case round =>
    obtain ⟨j, hj, rfl, HRx⟩ := hrel
    obtain ⟨z, hz⟩ := HRx.out
    have HR := Lib.hid hz
    clear HRx hz
    by_cases hlt : j < n
    · have dj : decide ((j : Int) < (n : Int)) = true := by simp; omega
      obtain ⟨x, hx⟩ : ∃ x, l[j]? = some x := ⟨_, List.getElem?_eq_getElem (by rw [HS.out.2]; exact hlt)⟩
      obtain ⟨b, off, rfl, hb, hr⟩ := im_at HS.out.1 hx
      have hstep := newI_snoc (q := q) hx
      rw [HR.out.2.2.2] at hstep
      obtain ⟨xp, hxp⟩ : ∃ u, x.p = u := ⟨_, rfl⟩
      obtain ⟨xv, hxv⟩ : ∃ u, x.v = u := ⟨_, rfl⟩
      obtain ⟨zv, hzv⟩ : ∃ u, z.v = u := ⟨_, rfl⟩
      have HU := Lib.hid (show (∀ cur, Below w.heap.size w cur → cur.rangeAt b (off + j * 5) x.cs) ∧ x.cs[0]? = some (.int .i64 xp) ∧ x.cs[1]? = some (.int .i64 xv) from ⟨fun cur h => rangeAt_on hr hb h, by rw [← hxp]; rfl, by rw [← hxv]; rfl⟩)
      have HZ := Lib.hid (show z.cs[1]? = some (.int .i64 zv) from by rw [← hzv]; rfl)
      rw [hxp, hxv, hzv] at hstep
      clear hx hb hr hxp hxv hzv
      by_cases hp : xp = q
      · have dp : (xp == q) = true := by simpa using hp
        by_cases hv : zv < xv
        · have dv : decide (zv < xv) = true := by simpa using hv
          have HST := Lib.hid (show newI q zerI (l.take (j + 1)) = x from by rw [hstep, if_pos ⟨hp, hv⟩])
          clear hstep hp hv
          go_wp2_with (first
            | ((with_reducible refine at_load_ (d := 14) ?_); refine wpList_load_mid rfl 44 (.tmp 13) rfl b (off + j * 5) rfl x.cs _ (HU.out.1 _ HR.out.1) Tryd.underlying44 rfl (by rw [Im.cs_len]; exact size_x) ?_)
            | ((with_reducible refine at_alloc_ (d := 8) ?_); refine wpList_alloc_v (op := ⟨some 8, _, _, _, _, _⟩) rfl 44 rfl zerX info_x ?_; intro g8 w1 hf hr; have H1 := Lib.hid (show _ ∧ _ from ⟨hf, hr⟩); have HN8 := Lib.hid (show g4 ≠ g8 ∧ g6 ≠ g8 from ⟨HR.out.2.1.ne hf, HR.out.2.2.1.ne hf⟩); clear hf hr)
            | ((with_reducible refine at_store_ (i := 8) ?_); refine wpList_store_v rfl 44 (.tmp 8) (.tmp 14) rfl g8 zerX x.cs rfl rfl H1.out.2 rfl (Im.cs_one _) size_x ?_; intro w2 hw hr; have H2 := Lib.hid (show Below wr.heap.size wr w2 ∧ RowV w2 g8 x.cs from ⟨H1.out.1.wr_bl hw, hr⟩); have y0 := (hr.cell 0).trans HU.out.2.1; have y1 := (hr.cell 1).trans HU.out.2.2; have y6 := ((HR.out.2.2.1.on (H1.out.1.wr_bl hw)).cell 1).trans HZ.out; clear hw hr)
            | ((with_reducible refine at_load_ (d := 26) ?_); refine wpList_load_v rfl 44 (.tmp 8) rfl g8 rfl x.cs _ H2.out.2 Tryd.underlying44 rfl (by rw [Im.cs_len]; exact size_x) ?_)
            | ((with_reducible refine at_store_ (i := 6) ?_); refine wpList_store_v rfl 44 (.tmp 6) (.tmp 26) rfl g6 z.cs x.cs rfl rfl (HR.out.2.2.1.on H2.out.1) rfl (Im.cs_one _) size_x ?_; intro w3 hw hr; have H3 := Lib.hid (show Below w.heap.size w w3 ∧ RowV w3 g4 zerX ∧ RowV w3 g6 x.cs from ⟨Wr.bl (below_on HR.out.1 H2.out.1) hw HG6.out.1, (HR.out.2.1.on H2.out.1).wr hw HG6.out.2, hr⟩); clear hw hr))
          go_roundw
          case rel => exact ⟨j + 1, by omega, by first | rfl | go_num, Lib.hid ⟨x, H3.out.1, H3.out.2.1, H3.out.2.2, HST.out⟩⟩
          case measure => simp [intOf]; omega
        · have dv : decide (zv < xv) = false := by simpa using hv
          have HST := Lib.hid (show newI q zerI (l.take (j + 1)) = z from by rw [hstep, if_neg fun h => hv h.2])
          clear hstep hp hv
          go_wp2_with (first
            | ((with_reducible refine at_load_ (d := 14) ?_); refine wpList_load_mid rfl 44 (.tmp 13) rfl b (off + j * 5) rfl x.cs _ (HU.out.1 _ HR.out.1) Tryd.underlying44 rfl (by rw [Im.cs_len]; exact size_x) ?_)
            | ((with_reducible refine at_alloc_ (d := 8) ?_); refine wpList_alloc_v (op := ⟨some 8, _, _, _, _, _⟩) rfl 44 rfl zerX info_x ?_; intro g8 w1 hf hr; have H1 := Lib.hid (show _ ∧ _ from ⟨hf, hr⟩); have HN8 := Lib.hid (show g4 ≠ g8 ∧ g6 ≠ g8 from ⟨HR.out.2.1.ne hf, HR.out.2.2.1.ne hf⟩); clear hf hr)
            | ((with_reducible refine at_store_ (i := 8) ?_); refine wpList_store_v rfl 44 (.tmp 8) (.tmp 14) rfl g8 zerX x.cs rfl rfl H1.out.2 rfl (Im.cs_one _) size_x ?_; intro w2 hw hr; have H2 := Lib.hid (show Below wr.heap.size wr w2 ∧ RowV w2 g8 x.cs from ⟨H1.out.1.wr_bl hw, hr⟩); have y0 := (hr.cell 0).trans HU.out.2.1; have y1 := (hr.cell 1).trans HU.out.2.2; have y6 := ((HR.out.2.2.1.on (H1.out.1.wr_bl hw)).cell 1).trans HZ.out; clear hw hr))
          go_roundw
          case rel => exact ⟨j + 1, by omega, by first | rfl | go_num, Lib.hid ⟨z, below_on HR.out.1 H2.out.1, HR.out.2.1.on H2.out.1, HR.out.2.2.1.on H2.out.1, HST.out⟩⟩
          case measure => simp [intOf]; omega
      · have dp : (xp == q) = false := by simpa using hp
        have HST := Lib.hid (show newI q zerI (l.take (j + 1)) = z from by rw [hstep, if_neg fun h => hp h.1])
        clear hstep hp
        go_wp2_with (first
          | ((with_reducible refine at_load_ (d := 14) ?_); refine wpList_load_mid rfl 44 (.tmp 13) rfl b (off + j * 5) rfl x.cs _ (HU.out.1 _ HR.out.1) Tryd.underlying44 rfl (by rw [Im.cs_len]; exact size_x) ?_)
          | ((with_reducible refine at_alloc_ (d := 8) ?_); refine wpList_alloc_v (op := ⟨some 8, _, _, _, _, _⟩) rfl 44 rfl zerX info_x ?_; intro g8 w1 hf hr; have H1 := Lib.hid (show _ ∧ _ from ⟨hf, hr⟩); have HN8 := Lib.hid (show g4 ≠ g8 ∧ g6 ≠ g8 from ⟨HR.out.2.1.ne hf, HR.out.2.2.1.ne hf⟩); clear hf hr)
          | ((with_reducible refine at_store_ (i := 8) ?_); refine wpList_store_v rfl 44 (.tmp 8) (.tmp 14) rfl g8 zerX x.cs rfl rfl H1.out.2 rfl (Im.cs_one _) size_x ?_; intro w2 hw hr; have H2 := Lib.hid (show Below wr.heap.size wr w2 ∧ RowV w2 g8 x.cs from ⟨H1.out.1.wr_bl hw, hr⟩); have y0 := (hr.cell 0).trans HU.out.2.1; have y1 := (hr.cell 1).trans HU.out.2.2; have y6 := ((HR.out.2.2.1.on (H1.out.1.wr_bl hw)).cell 1).trans HZ.out; clear hw hr))
        go_roundw
        case rel => exact ⟨j + 1, by omega, by first | rfl | go_num, Lib.hid ⟨z, below_on HR.out.1 H2.out.1, HR.out.2.1.on H2.out.1, HR.out.2.2.1.on H2.out.1, HST.out⟩⟩
        case measure => simp [intOf]; omega
    · obtain rfl : j = n := by omega
      have dj : decide ((j : Int) < (j : Int)) = false := by simp
      have hall : z = N := by
        have := HR.out.2.2.2
        rw [List.take_of_length_le (by rw [HS.out.2]; exact Nat.le_refl _), HNW.out] at this
        exact this.symm
      subst hall
      obtain ⟨zv, hzv⟩ : ∃ u, z.v = u := ⟨_, rfl⟩
      obtain ⟨q0, hq0⟩ : ∃ u, decide (0 < zv) = u := ⟨_, rfl⟩
      have HZ := Lib.hid (show z.cs[1]? = some (.int .i64 zv) ∧ decide (0 < zv) = q0 from ⟨by rw [← hzv]; rfl, hq0⟩)
      have HW := Lib.hid (show decide (0 < z.v) = q0 from by rw [hzv]; exact hq0)
      have HF := Lib.hid (show Below w.heap.size w wr ∧ RowV wr g4 zerX ∧ RowV wr g6 z.cs from ⟨HR.out.1, HR.out.2.1, HR.out.2.2.1⟩)
      clear hzv hq0 HR HNW
      go_wp2
      refine region_facts (by kernel_rfl) _ wr (fun c => Below w.heap.size w c ∧ RowV c g6 z.cs) 4 (factL [fun u _ => u = .agg z.cs.toArray, fun u _ => u = .pointer (some ⟨g6, 1, none⟩), fun u _ => u = .int .i64 zv, fun u _ => u = .bool q0, fun _ c => RowV c g4 z.cs, fun u _ => u = .bool q0]) (by kernel_rfl) (firm_list (by simp only [List.forall_mem_cons]; exact ⟨firm_eq _, firm_eq _, firm_eq _, firm_eq _, fun u c c2 h hb => h.on hb, firm_eq _, fun X h => by cases h⟩)) (fun c c2 h hb => ⟨below_on h.1 hb, h.2.on hb⟩) (Below.refl _ _) ⟨HF.out.1, HF.out.2.2⟩ ?_ ?_
      · refine ops_all (allI.cons ?_ (allI.cons ?_ (allI.cons ?_ (allI.cons ?_ (allI.cons ?_ (allI.cons ?_ allI.nil)))))) <;> intro v S c a hI hw1 hX hSi hdep hS hC
        · exact o_ldv 44 (.tmp 6) rfl g6 (hS.old 6 rfl) z.cs _ hI.2 Tryd.underlying44 rfl size_x (Step.still rfl)
        · exact o_fa _ (.tmp 6) 1 rfl (hS.old 6 rfl) (fa_x1 g6 _) (Step.still rfl)
        · exact o_ld _ (.tmp 29) rfl ((hS.get 1 (dep_at hdep 1 rfl) rfl rfl).trans (hX 1 (dep_at hdep 1 rfl))) ((hI.2.cell 1).trans HZ.out.1) ag_i (Step.still rfl)
        · exact o_bin .gtr 3 3 (.tmp 30) (.const (.int .i64 0)) rfl ((hS.get 2 (dep_at hdep 2 rfl) rfl rfl).trans (hX 2 (dep_at hdep 2 rfl))) rfl (by rw [← HZ.out.2]; kernel_rfl) (Step.still rfl)
        · refine wp_store_v 44 (.tmp 4) (.tmp 28) rfl g4 zerX z.cs (hS.old 4 rfl) ((hS.get 0 (dep_at hdep 0 rfl) rfl rfl).trans (hX 0 (dep_at hdep 0 rfl))) (HF.out.2.1.on (hw1 hSi)) rfl (Im.cs_one _) size_x ?_
          intro w9 hw hr
          refine Step.turn hr rfl ⟨Wr.bl hI.1 hw HG4.out.1, hI.2.wr hw HG4.out.2⟩ ?_
          intro j hj
          match j, hj with
          | 0, hj => exact hX 0 hj
          | 1, hj => exact hX 1 hj
          | 2, hj => exact hX 2 hj
          | 3, hj => exact hX 3 hj
          | 4, hj => rw [hSi] at hj; cases hj
          | 5, hj => exact hX 5 hj
          | _ + 6, _ => trivial
        · exact o_as (.tmp 31) rfl ((hS.get 3 (dep_at hdep 3 rfl) rfl rfl).trans (hX 3 (dep_at hdep 3 rfl))) (Step.still rfl)
      · intro v c hI hX
        have e5 : v 5 = .bool q0 := hX 5 (by decide)
        have HE := Lib.hid (show Below w.heap.size w c ∧ RowV c g4 z.cs from ⟨hI.1, hX 4 (by decide)⟩)
        clear hI hX
        simp only [putAll, Act.put]
        simp
        rw [e5]
        clear e5
        go_wp2_with fail
        exact bodyPost_ret (results_v1 rfl _ _ g4 z.cs _ rfl HE.out.2 Tryd.underlying44 rfl size_x) rfl ⟨by rw [HW.out]; rfl, HE.out.1⟩
end Go.Proofs.YtcapbojjceeapaaDoor
