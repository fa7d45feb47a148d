/-
  What is proved here: what the reference's Sum answers, for bytes that lie in memory, where the table of its constants lies there too.
-/
import Derived.Test.YtaikoeoabgkglaaDoorCmpR
import Derived.Test.YtaikoeoabgkglaaDoorOb
namespace Go.Proofs.YtaikoeoabgkglaaDoor
open Go.RowKit
set_option linter.unusedVariables false
attribute [local go_sem ↓] Go.wp_at_zero Go.wp_at_succ

theorem TabR.below {w wr : World} (h : TabR w) (hb : Below w.heap.size w wr) : TabR wr := ⟨Nat.lt_of_lt_of_le h.1 hb.size, fun k hk => (hb.cell (p := ⟨_, k, none⟩) h.1).trans (h.2 k hk)⟩

set_option maxRecDepth 40000 in
set_option maxHeartbeats 2000000 in
theorem ref_sum (l : List UInt8) (A : Option Addr) (c : Nat) (w : World) (hl : l.length ≤ 140737488351500) (hn : A = none → c = 0) (hs : SeesP w (· < w.heap.size) A (Us l)) (ht : TabR w) :
    Calls Tryd.prog 26 #[.slice A l.length c] w (Mk w (sumL l)) := by
  obtain ⟨i0, hi, hz0, hz1, hz2⟩ := info_parts info_u8p
  obtain ⟨m, hm, hm1⟩ := padL_size l
  have hm2 : 64 * m ≤ 140737488355000 := by have := padL_length l; have := padZ_lt l.length; omega
  have H := Lib.hid (show _ ∧ _ ∧ _ ∧ _ ∧ _ from ⟨hn, hs, ht, hm, hm1⟩)
  clear hn hs ht hm hm1
  go_enter Tryd.func26, Tryd.ntmps26
  go_wp2_with fail
  refine (ref_pad l A c w (by omega) H.out.1 H.out.2.1).mono ?_
  intro e w1 hm3
  obtain ⟨pb, off, c3, he, hcap, hP⟩ := mk_block H.out.2.2.2 hm3
  subst he
  have HP := Lib.hid hP
  have hpb : pb < w1.heap.size := hP.2.1
  clear hP hm3
  go_wp2_with fail
  refine (ref_first w1).mono ?_
  intro e w2 hm4
  obtain ⟨Ah, ch, he, HB⟩ := BlR.start (p := padL l) hm4
  subst he
  clear hm4
  go_wp2_with fail
  go_loopw [4, 5] (fun h i wr => ∃ (k : Nat) (Ah : Option Addr) (ch : Nat), k ≤ m ∧ i = .int .i64 (64 * (k : Int)) ∧ h = .slice Ah 8 ch ∧ Hid (BlR w1 (padL l) k Ah wr)) (fun _ i _ => (64 * (m : Int) - intOf i).toNat)
  case atStart => exact ⟨0, Ah, ch, Nat.zero_le _, rfl, rfl, HB⟩
  case round =>
    clear HB
    obtain ⟨k, Ah, ch, hk, rfl, rfl, HB⟩ := hrel
    by_cases hlt : k < m
    · have d3 : ¬ c3 = 64 * k := by omega
      have HC := Lib.hid (ref_comp (stW (padL l) k) (blkL (padL l) k) Ah (some ⟨pb, off + 64 * k, none⟩) ch (c3 - 64 * k) wr (stW_length _ _) (blkL_length H.out.2.2.2.1 hlt) HB.out.1 (HB.out.blk H.out.2.2.2.1 hlt hpb HP.out.2.2.1) ((H.out.2.2.1.below HP.out.2.2.2).below HB.out.2))
      go_wp2_with (go_at_call 46; refine HC.out.mono ?_; intro e w5 hg; obtain ⟨A5, c5, he, H5⟩ := HB.out.next hg; subst he; clear hg)
      go_roundw
      case rel => exact ⟨k + 1, A5, c5, by omega, by go_num, rfl, H5⟩
      case measure => simp [intOf]; omega
    · obtain rfl : k = m := by omega
      clear hlt hk
      obtain ⟨st, hst⟩ : ∃ st, st = stW (padL l) k := ⟨_, rfl⟩
      have HST := Lib.hid (show st.length = 8 from by rw [hst]; exact stW_length _ _)
      have hsee := HB.out.1
      rw [← hst] at hsee
      obtain ⟨gh, oh, rfl, hgh, hcells⟩ := state_cells HST.out hsee
      have HZ := Lib.hid (show sumL l = outB st ∧ Below w.heap.size w wr from ⟨by rw [hst, sumL, H.out.2.2.2.1, Nat.mul_div_cancel_left _ (by decide)], below_on HP.out.2.2.2 HB.out.2⟩)
      clear HB hsee hst HP hpb
      obtain ⟨w2, rfl⟩ : ∃ w2 : World, w2 = wr := ⟨_, rfl⟩
      go_wp2_with fail
      go_loopw [6, 7] (fun v j wr => ∃ k : Nat, k ≤ 8 ∧ j = .int .i64 (k : Int) ∧ Hid (O3 w2 st k v wr)) (fun _ j _ => 8 - (intOf j).toNat)
      case atStart => exact ⟨0, by decide, rfl, Lib.hid (O3.start w2 st)⟩
      case round =>
        obtain ⟨j, hj, rfl, HO⟩ := hrel
        have ho := HO.out.1
        obtain ⟨A1, c1, rfl⟩ := own_len ho
        have hsz := HO.out.2.size
        by_cases h8 : j < 8
        · have hx := hcells j h8
          have ag : (Value.slice A1 (4 * j) c1).ownBlock ≠ some gh := fun e => by have := (ho.lt gh e).1; omega
          have hx2 := (HO.out.2.cell (p := ⟨gh, oh + j, none⟩) hgh).trans hx
          have r1 : (0 : Int) ≤ (j : Int) ∧ (j : Int) < 8 := by omega
          have hgw : gh < wr.heap.size := by omega
          go_wp2_with fail
          go_region_held3 (fun w' => w'.cell? ⟨gh, oh + j, none⟩ = some (.int .u32 ((st.getD j 0).toNat : Int)))
            (first
              | exact keep_far hgrow hgw ag hx2
              | go_keep)
            ((refine step_append_lies _ (by rfl) (.tmp 34) (.tmp 58) 22 (by rfl) w2.heap.size 5 i0 (.int .u8 0) 1 1 Tryd.underlying22 hi hz0 hz1 hz2 rfl (by decide) (.slice A1 (4 * j) c1) (4 * j) _ (by rfl) ((ho.alloc _).drew) ⟨wr.heap.size, 0, none⟩ 4 4 (bytesV (st[j]?.getD 0)) (by rfl) (by rfl) (World.news_of_block (cs := (bytesV (st[j]?.getD 0)).toArray) (t := 5) (fr := (0, 0)) (heap_alloc_new wr _)) (bytesV_one _) (by omega) (by unfold maxLen; omega) (by omega) (by simp; omega) (wr.heap.size + 1) (by simp) ?_; intro gg cap w6 hown6 hgrow hat hlt))
          go_wp2_with fail
          have H6 := Lib.hid (HO.out.step (by have := HST.out; omega) hown6 hgrow)
          clear hx hx2 ag ho HO hown6 hgrow hat hlt r1 hgw
          go_roundw
          case rel => exact ⟨j + 1, by omega, by go_num, H6⟩
          case measure => simp [intOf]; omega
        · obtain rfl : j = 8 := by omega
          have HF := Lib.hid (HO.out.done HST.out HZ.out.2)
          clear HO ho h8 hj
          go_wp2_with fail
          go_ret
          rw [HZ.out.1]
          exact HF.out

end Go.Proofs.YtaikoeoabgkglaaDoor
