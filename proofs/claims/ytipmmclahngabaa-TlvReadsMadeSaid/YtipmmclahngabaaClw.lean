/-
  What is proved here: what the program's clone returns, for an object that lies in memory.
-/
import Derived.Test.YtipmmclahngabaaCln
namespace Go.Proofs.Ytipmmclahngabaa
open Go.RowKit
set_option linter.unusedVariables false

set_option maxRecDepth 20000 in
set_option maxHeartbeats 8000000 in
theorem clone_all (n : Nat) (hn : n ≤ 1048577) : CloneAll n := by
  induction n with
  | zero => intro t v k Av Ak cv ck w p h; omega
  | succ n ih =>
    intro t v k Av Ak cv ck w p hsz hok hl hp hv hk
    have IH := Lib.hid (ih (by omega))
    have HV := Lib.hid hv
    have HK := Lib.hid (show k.ok ∧ SeesF w p Ak k ∧ (∀ x, p x → x < w.heap.size) from ⟨hok, hk, hp⟩)
    have hlk := k.len_le_size
    clear hv ih hk hok
    go_enter Try.func48, Try.ntmps48
    go_wp2_with fail
    go_upto_region 1 with fail
    go_cut [3] from 5 to 10 (fun v3 wx => ∃ (G g : Nat), v3 = .pointer (some ⟨G, 0, none⟩) ∧ Hid (Cl1 w t v Av Ak cv k.len ck G g wx))
    case first =>
      go_region_with (go_at_call 62; refine (clone_bytes Av v cv _ p (fun x hx => by have := HK.out.2.2 x hx; (first | (simp; done) | (simp; omega))) hl (HV.out.keep fun q hq => (show Below w.heap.size w _ from by repeat' (first | exact Below.refl _ _ | refine Below.drew ?_ | refine Below.alloc ?_ ?_ _ | (simp; done) | (simp; omega))).cell (HK.out.2.2 _ hq))).mono ?_; rintro e w3 ⟨g, rfl, hsee, hb3⟩; have HB : ClB w w3 t Av Ak v.length cv k.len ck := ⟨(hb3.block _ (by first | (simp; done) | (simp; omega))).trans (by first | exact block_alloc (heap_alloc_new w _) _ | exact block_alloc (block_alloc (heap_alloc_new w _) _) _), (hb3.block _ (by first | (simp; done) | (simp; omega))).trans (by first | exact block_next w _ _ | exact block_alloc (block_next w _ _) _)⟩; have hz0 : w.heap.size < w3.heap.size := lt_of_block HB.1; have hz1 : w.heap.size + 1 < w3.heap.size := lt_of_block HB.2; have hc0 := HB.cells.1; have hc1 := HB.cells.2.1; have hc2 := HB.cells.2.2; have HS3 : Hid (SeesP w3 (fun b => w.heap.size + 2 ≤ b ∧ b < w3.heap.size) (some ⟨g, 0, none⟩) (Us v) ∧ Below w.heap.size w w3) := Lib.hid ⟨hsee.imp fun b hb => ⟨Nat.le_trans (by first | (simp; done) | (simp; omega)) hb.1, hb.2⟩, Below.trans (by repeat' (first | exact Below.refl _ _ | refine Below.drew ?_ | refine Below.alloc ?_ ?_ _ | (simp; done) | (simp; omega))) (hb3.mono (by first | (simp; done) | (simp; omega)))⟩; (try (have HZ : ZeroN w3 (w.heap.size + 2) := (hb3.block _ (by first | (simp; done) | (simp; omega))).trans (block_at (by simp)); have HZ3 : Hid (SeesP w3 (fun b => w.heap.size + 3 ≤ b ∧ b < w3.heap.size) (some ⟨g, 0, none⟩) (Us v)) := Lib.hid (hsee.imp fun b hb => ⟨Nat.le_trans (by first | (simp; done) | (simp; omega)) hb.1, hb.2⟩); obtain ⟨z0, z1, z2, z3, z4, z5⟩ := HZ.cells; have HZ2 := Lib.hid HZ; clear HZ)); have HB2 := Lib.hid HB; clear hsee hb3 HB)
      all_goals
        go_wp2_with fail
        go_meet
        first | exact ⟨_, _, rfl, Lib.hid (cl_after HB2.out HS3.out.1 HS3.out.2)⟩ | exact ⟨_, _, rfl, Lib.hid (cl_before rfl HB2.out HZ2.out HZ3.out HS3.out.2)⟩
    case rest =>
      obtain ⟨G, g, rfl, HC⟩ := hcut
      have cN2 := HC.out.1.cells.2.2
      have hG := HC.out.2.2.1
      have cG2 : wc.cell? ⟨G, 2, none⟩ = some (.slice none 0 0) := cell_of_row wc G 2 _ _ _ HC.out.2.1
      have fG2 := frozen_of_row wc G 2 _ _ HC.out.2.1
      have cG0 : wc.cell? ⟨G, 0, none⟩ = some (.int .i64 t) := cell_of_row wc G 0 _ _ _ HC.out.2.1
      have cG1 : wc.cell? ⟨G, 1, none⟩ = some (.slice (some ⟨g, 0, none⟩) v.length v.length) := cell_of_row wc G 1 _ _ _ HC.out.2.1
      cases k with
      | nil =>
        obtain ⟨o0, o1, o2, o3, o4, o5⟩ := ZeroN.cells (g := w.heap.size + 1) HC.out.1.2
        have el : F.nil.len = 0 := rfl
        have HE := Lib.hid (fun (x y z : Value) => clone_end (w := w) (wr := wc) (t := t) (v := v) (k := .nil) (g := g) (K := 0) (ck := 0) (Ak := none) (fun b => w.heap.size + 2 ≤ b ∧ b ≠ G ∧ b < wc.heap.size) (fun b hb => ⟨hb.1, hb.2.2⟩) HC.out.2.2.2.1 SeesF.nil_ HC.out.2.2.2.2 x y z _ rfl)
        go_wp2
        go_loopw [23] (fun i wr => i = .int .i64 0 ∧ wr = wc) (fun i _ => 0)
        case atStart => exact ⟨rfl, rfl⟩
        case round =>
          obtain ⟨rfl, rfl⟩ := hrel
          go_wp2
          refine bodyPost_ret (ret_cell_one rfl _ _ _ _ _ _ _ rfl (block_set (block_set (block_set HC.out.1.2 _) _) _) Try.underlying32 rfl info_nodeS) rfl ?_
          exact HE.out _ _ _
      | cons t1 v1 k1 r1 =>
        obtain ⟨i0, hi, hz0, hz1, hz2⟩ := info_parts info_node
        obtain ⟨kk, hkk⟩ : ∃ kk, kk = F.cons t1 v1 k1 r1 := ⟨_, rfl⟩
        obtain ⟨kn, hkn⟩ : ∃ kn, kn = kk.len := ⟨_, rfl⟩
        have hk0 : 0 < kn := by rw [hkn, hkk]; simp [F.len]
        rw [← hkk] at hsz HK HC cN2 hlk ⊢
        rw [← hkn] at cN2 hlk HC ⊢
        have hkm : kn ≤ 1048576 := by omega
        have hws := HC.out.2.2.2.2.size
        have HKN := Lib.hid hkn
        have HKK := Lib.hid hkk
        clear hkn hkk
        go_wp2_with (at_make; refine wpList_make_full _ rfl _ _ 24 rfl w.heap.size 32 i0 (.agg #[.int .i64 0, .slice none 0 0, .slice none 0 0]) 3 Try.underlying24 hi hz0 hz1 _ _ _ _ kn rfl rfl rfl rfl (by rw [hz2]; omega) (by unfold maxLen; omega) hws ?_; intro w1 hown hgrow; obtain ⟨arr, ha, hs⟩ := row_of hown hk0; have HL := Lib.hid (ClL.start (k := kk) HC.out hgrow arr ha hs); have fG2 := frozen_of_row w1 G 2 _ _ (HC.out.grow hgrow).2.1; have cG2 : w1.cell? ⟨G, 2, none⟩ = some (.slice none 0 0) := cell_of_row w1 G 2 _ _ _ (HC.out.grow hgrow).2.1; clear hown hgrow ha hs)
        obtain ⟨K, hK⟩ : ∃ K, K = wc.heap.size := ⟨_, rfl⟩
        rw [← hK] at HL ⊢
        obtain ⟨cs, s1, s2⟩ := HK.out.2.1
        have HS := Lib.hid (show SeesP w p Ak cs ∧ HoldsP w p kk cs ∧ (∀ x, p x → x < w.heap.size) from ⟨s1, s2, HK.out.2.2⟩)
        have HO := Lib.hid HK.out.1
        clear hK s1 s2 HK HC cN2 cG0 cG1 cG2 fG2 hws
        go_loopw [23] (fun i wr => ∃ (j : Nat) (gg : F), j + gg.len = kn ∧ i = .int .i64 (j : Int) ∧ Hid (ClL w t v Av Ak cv ck G g K kn kk j gg wr ∧ gg.ok ∧ gg.size ≤ kk.size ∧ HoldsP w p gg (cs.drop (3 * j)))) (fun i _ => kn - (intOf i).toNat)
        case atStart => exact ⟨0, kk, by have := HKN.out; omega, rfl, Lib.hid ⟨HL.out, HO.out, Nat.le_refl _, HS.out.2.1⟩⟩
        case round =>
          clear HL HO
          obtain ⟨j, gg, hj, rfl, HG⟩ := hrel
          have cN2 := HG.out.1.1.cells.2.2
          have cG2 : wr.cell? ⟨G, 2, none⟩ = some (.slice (some ⟨K, 0, none⟩) kn kn) := cell_of_row wr G 2 _ _ _ HG.out.1.2.1
          have hb8 := HG.out.1.2.2.2.2.2.2.1
          cases gg with
          | nil =>
            have hj2 : j = kn := hj
            have dk : decide ((j : Int) < (kn : Int)) = false := by simp; omega
            obtain ⟨o0, o1, o2, o3, o4, o5⟩ := ZeroN.cells (g := w.heap.size + 1) HG.out.1.1.2
            have cG0 : wr.cell? ⟨G, 0, none⟩ = some (.int .i64 t) := cell_of_row wr G 0 _ _ _ HG.out.1.2.1
            have cG1 : wr.cell? ⟨G, 1, none⟩ = some (.slice (some ⟨g, 0, none⟩) v.length v.length) := cell_of_row wr G 1 _ _ _ HG.out.1.2.1
            have HE : Hid (∀ x y z : Value, CloneIs w t v kk (.returned (.agg #[.int .i64 t, .slice (some ⟨g, 0, none⟩) v.length v.length, .slice (some ⟨K, 0, none⟩) kn kn])) (((wr.setCell ⟨w.heap.size + 1, 0, none⟩ x).setCell ⟨w.heap.size + 1, 1, none⟩ y).setCell ⟨w.heap.size + 1, 2, none⟩ z)) := Lib.hid (fun x y z => by
              obtain ⟨_, _, _, q5, _, q7, q8, arr, ha, hs, df, d1, d2, d3⟩ := HG.out.1
              rw [F.app_nil] at d1
              subst d1
              have hl : arr.toList.take (3 * j) = arr.toList := List.take_of_length_le (by simp; omega)
              rw [hl] at d3
              refine clone_end (K := K) (ck := kn) (fun b => w.heap.size + 2 ≤ b ∧ b < wr.heap.size) (fun b hb => hb) (q7.imp fun b hb => ⟨hb.1, hb.2.2.2⟩) ?_ q8 x y z _ (by rw [← HKN.out])
              refine ⟨arr.toList, .inr ⟨K, 0, rfl, ⟨q5, lt_of_block ha⟩, fun i hi => ?_⟩, HoldsP.imp (fun b hb => ⟨hb.1, hb.2.2.2⟩) d3⟩
              rw [Nat.zero_add, cell_of_row wr K i _ _ _ ha, Array.getElem?_toList])
            clear hj cN2
            go_wp2
            refine bodyPost_ret (ret_cell_one rfl _ _ _ _ _ _ _ rfl (block_set (block_set (block_set HG.out.1.1.2 _) _) _) Try.underlying32 rfl info_nodeS) rfl ?_
            rw [← HKK.out]
            exact HE.out _ _ _
          | cons t1 v1 k1 r =>
            have hj1 : j + r.len + 1 = kn := hj
            have hjk : j < kn := by omega
            have dk : decide ((j : Int) < (kn : Int)) = true := by simp; omega
            have hgs : k1.size + r.size + 1 ≤ kk.size := HG.out.2.2.1
            obtain ⟨b, off, Av1, cv1, Ak1, ck1, rfl, hpb, x0, x1, x2, sv, sk, hr, hnv⟩ := node_at HS.out.1 HG.out.2.2.2
            have hbw := HS.out.2.2 b hpb
            have y0 := (hb8.cell (p := ⟨b, off + j * 3, none⟩) hbw).trans x0
            have y1 := (hb8.cell (p := ⟨b, off + j * 3 + 1, none⟩) hbw).trans x1
            have y2 := (hb8.cell (p := ⟨b, off + j * 3 + 2, none⟩) hbw).trans x2
            have HI := Lib.hid (fun (w2 : World) (h2 : Below wr.heap.size wr w2) => IH.out t1 v1 k1 Av1 Ak1 cv1 ck1 w2 p (by omega) HG.out.2.1.2.2.1 HG.out.2.1.2.1 (fun x hx => Nat.lt_of_lt_of_le (HS.out.2.2 x hx) (Nat.le_trans hb8.size h2.size))
              (sv.keep fun q hq => (h2.cell (Nat.lt_of_lt_of_le (HS.out.2.2 _ hq) hb8.size)).trans (hb8.cell (HS.out.2.2 _ hq))) (sk.keep fun q hq => (h2.cell (Nat.lt_of_lt_of_le (HS.out.2.2 _ hq) hb8.size)).trans (hb8.cell (HS.out.2.2 _ hq))))
            have HR := Lib.hid (show r.ok ∧ r.size ≤ kk.size ∧ HoldsP w p r (cs.drop (3 * (j + 1))) from ⟨HG.out.2.1.2.2.2, by omega, hr⟩)
            have HF : Hid (∃ arr : Array Value, wr.heap[K]? = some (.cells arr 32 (0, 0)) ∧ arr.size = kn * 3) := Lib.hid (by
              obtain ⟨_, _, _, _, _, _, _, arr, ha, hs, _⟩ := HG.out.1
              exact ⟨arr, ha, hs⟩)
            have hGs : G < wr.heap.size := lt_of_block HG.out.1.2.1
            have hKs : K < wr.heap.size := by obtain ⟨arr, ha, _⟩ := HF.out; exact lt_of_block ha
            have HB8 := Lib.hid hb8
            clear hj x0 x1 x2 sv sk hr hnv hpb hb8 hbw
            go_wp2_with fail
            go_region_with (go_at_call 48; refine (HI.out _ (by first | exact Below.refl _ _ | exact (Below.refl _ _).drew | exact below_dn (Below.refl _ _) _ | exact (below_dn (Below.refl _ _) _).drew)).mono ?_; rintro e w4 ⟨Av2, cv2, Ak2, ck2, rfl, hn0, sv2, sk2, hb2⟩; obtain ⟨HST, cG2, ⟨z0, e0⟩, ⟨z1, e1⟩, ⟨z2, e2⟩, f0, f1, f2⟩ := ClL.after (ck1 := ck2) HG.out.1 hjk (by first | exact Below.refl _ _ | exact (Below.refl _ _).drew | exact below_dn (Below.refl _ _) _ | exact (below_dn (Below.refl _ _) _).drew) hn0 sv2 sk2 hb2; clear sv2 sk2 hb2 hn0)
            all_goals
              have HN := Lib.hid HST.out
              go_wp2_with fail
              go_roundw
              case rel => exact ⟨j + 1, r, by omega, by go_num, Lib.hid ⟨HN.out, HR.out.1, HR.out.2.1, HR.out.2.2⟩⟩
              case measure => simp [intOf]; omega

end Go.Proofs.Ytipmmclahngabaa
