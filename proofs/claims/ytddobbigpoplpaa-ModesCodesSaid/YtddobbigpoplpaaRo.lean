/-
  What is proved here: what the reference's Open (of the sixth layer) answers, for bytes that lie in memory.
-/
import Derived.Test.YtddobbigpoplpaaRs
import Derived.Test.YtddobbigpoplpaaMf
import Derived.Deep.RegionHeld3
namespace Go.Proofs.Ytddobbigpoplpaa
open Go.RowKit
set_option linter.unusedVariables false

/-- between two rounds -/
def RoO (key iv p : List UInt8) (k : Nat) (A : Option Addr) (o : Value) (w0 w wr : World) : Prop :=
  SeesP w0 (· < w0.heap.size) A (Us (pvN iv p k)) ∧ wr.ownsRow w.heap.size 5 1 o (16 * k) (Us (openN key iv p k)) ∧ Below w.heap.size w wr
/-- within the inner loop -/
def RvO (z pre : List UInt8) (n : Nat) (v0 v : Value) (j : Nat) (w1 w4 wr : World) : Prop :=
  wr.ownsRow w1.heap.size 5 1 v (n + j) (Us (pre ++ z.take j)) ∧ Below w1.heap.size w1 wr ∧ w4.heap.size ≤ wr.heap.size ∧ (∀ q, q < w4.heap.size → v0.ownBlock ≠ some q → wr.heap[q]? = w4.heap[q]?) ∧ (∀ g, v.ownBlock = some g → v0.ownBlock = some g ∨ w4.heap.size ≤ g)
theorem keep_far2 {wr w6 : World} {o : Obj} {v : Value} {gh p : Nat} {u : Value} (hg : ((wr.alloc o).drew).grownBy w6 v.ownBlock) (hgw : gh < wr.heap.size) (ag : v.ownBlock ≠ some gh) (hx : wr.cell? ⟨gh, p, none⟩ = some u) : w6.cell? ⟨gh, p, none⟩ = some u :=
  (World.cell?_of_block (w := (wr.alloc o).drew) (hg.block gh (by show gh < (wr.alloc o).heap.size; simp; omega) (fun e => ag e.symm))).trans ((((Below.refl wr.heap.size wr).alloc (Nat.le_refl _) o).cell (p := ⟨gh, p, none⟩) hgw).trans hx)
theorem RvO.step {z pre : List UInt8} {n j gg cap : Nat} {v0 v : Value} {w1 w4 wr w6 : World} {o : Obj} {a b : UInt8} (h : RvO z pre n v0 v j w1 w4 wr) (hz : z.length = 16) (hj : j < 16) (hab : a ^^^ b = z.getD j 0)
    (ho : w6.ownsRow w1.heap.size 5 1 (.slice (some ⟨gg, 0, none⟩) (n + j + 1) cap) (n + j + 1) (Us (pre ++ z.take j) ++ [.int .u8 (bits .xor .u8 (a.toNat : Int) (b.toNat : Int))])) (hg : ((wr.alloc o).drew).grownBy w6 v.ownBlock) (hat : v.ownBlock = some gg ∨ gg = wr.heap.size + 1) :
    RvO z pre n v0 (.slice (some ⟨gg, 0, none⟩) (n + j + 1) cap) (j + 1) w1 w4 w6 := by
  obtain ⟨h1, h2, h3, h4, h5⟩ := h
  have hs6 : wr.heap.size + 1 ≤ w6.heap.size := by have := hg.size; simpa [World.drew] using this
  have hlt : ∀ g, v.ownBlock = some g → w1.heap.size ≤ g ∧ g < wr.heap.size := fun g e => own_block_lt h1 e
  refine ⟨?_, ?_, by omega, fun q hq hn => ?_, fun g e => ?_⟩
  · rw [List.take_succ_eq_append_getElem (by omega), ← List.append_assoc, Us_append]
    have e : Us [z[j]] = [.int .u8 (bits .xor .u8 (a.toNat : Int) (b.toNat : Int))] := by
      rw [b_xor, hab, getD_b (by omega)]
      rfl
    rw [e]
    exact ho
  · exact (h2.trans ((((Below.refl wr.heap.size wr).alloc (Nat.le_refl _) o).drew).mono h2.size)).grown hg (by have := h2.size; simp [World.drew]; omega) (fun g e => (hlt g e).1)
  · have hne : v.ownBlock ≠ some q := fun e => by
      rcases h5 q e with h | h
      · exact hn h
      · omega
    rw [hg.block q (by show q < (wr.alloc o).heap.size; simp; omega) (fun e => hne e.symm)]
    show (wr.alloc o).heap[q]? = _
    rw [Below.heap_alloc wr o q (by omega)]
    exact h4 q hq hn
  · have e2 : g = gg := by simpa [Value.ownBlock] using e.symm
    subst e2
    rcases hat with h | h
    · exact h5 g h
    · exact .inr (by omega)

set_option maxRecDepth 40000 in
set_option maxHeartbeats 1000000 in
theorem ref_open_ok (key iv p : List UInt8) (m : Nat) (A1 A2 A3 : Option Addr) (c1 c2 c3 : Nat) (w : World) (hk : key.length = 16) (hiv : iv.length = 16) (hp : p.length = 16 * m) (hc3 : 16 * m ≤ c3) (hreach : 16 * m ≤ 140737488351300)
    (h1 : SeesP w (· < w.heap.size) A1 (Us key)) (h2 : SeesP w (· < w.heap.size) A2 (Us iv)) (h3 : SeesP w (· < w.heap.size) A3 (Us p)) :
    Calls Try.prog 38 #[.slice A1 16 c1, .slice A2 16 c2, .slice A3 (16 * m) c3] w (Gives w (openN key iv p m) 0) := by
  obtain ⟨i0, hi, hz0, hz1, hz2⟩ := info_parts info_u8p
  have HL := Lib.hid (show _ ∧ _ ∧ _ from ⟨hk, hiv, hp⟩)
  have HS := Lib.hid (show _ ∧ _ ∧ _ from ⟨h1, h2, h3⟩)
  have HK1 := Lib.hid (SeesP.iff_sees.1 h1)
  have d16 : (((16 : Int) * (m : Int)) % 16 != 0) = false := by rw [bne_eq_false_iff_eq]; omega
  clear hk hiv hp h1 h2 h3
  go_enter Try.func38, Try.ntmps38
  go_wp2_with (go_at_call 50; ((with_reducible refine (ref_ready key A1 _ _ HL.out.1 HK1.out).mono ?_); rintro e w1 ⟨gc, rfl, hrd, hb1⟩); have HR := Lib.hid hrd; have HB1 := Lib.hid hb1; clear hrd hb1)
  have HI := Lib.hid (show RoO key iv p 0 A2 (.slice none 0 0) w w1 w1 from ⟨HS.out.2.1, World.ownsRow_nil _ _ _ _, Below.refl _ _⟩)
  go_loopw [9, 10, 11] (fun l o i wr => ∃ (k : Nat) (A : Option Addr) (c : Nat) (v : Value), k ≤ m ∧ l = .slice A 16 c ∧ i = .int .i64 (16 * (k : Int)) ∧ v = o ∧ Hid (RoO key iv p k A v w w1 wr)) (fun _ _ i _ => (16 * (m : Int) - intOf i).toNat)
  case atStart => exact ⟨0, A2, c2, _, Nat.zero_le _, rfl, rfl, rfl, HI⟩
  case round =>
    clear HI
    obtain ⟨k, A, c, v, hkm, rfl, rfl, rfl, HI⟩ := hrel
    obtain ⟨w2, rfl⟩ : ∃ w2, w2 = wr := ⟨_, rfl⟩
    by_cases hlt : k < m
    · have d1 : (16 : Int) * (k : Int) < 16 * (m : Int) := by omega
      obtain ⟨b3, o3, hA3, hb3, _⟩ := seen_addr HS.out.2.2 (by rw [HL.out.2.2]; omega)
      subst hA3
      obtain ⟨q, hq⟩ : ∃ q, q = blk16 p k := ⟨_, rfl⟩
      obtain ⟨y, hy⟩ : ∃ y, y = pvN iv p k := ⟨_, rfl⟩
      obtain ⟨x, hx⟩ : ∃ x, x = decL key q := ⟨_, rfl⟩
      obtain ⟨z, hz⟩ : ∃ z, z = xor16 x y := ⟨_, rfl⟩
      have HQ := Lib.hid (show q.length = 16 ∧ decL key q = x ∧ x.length = 16 ∧ z.length = 16 ∧ (∀ j, j < 16 → x.getD j 0 ^^^ y.getD j 0 = z.getD j 0) from
        ⟨by rw [hq]; exact blk16_length HL.out.2.2 hlt, hx.symm, by rw [hx]; exact decL_length _ _, by rw [hz]; exact xor16_length _ _, fun j hj => by rw [hz]; exact (xor16_get hj).symm⟩)
      have hyl : y.length = 16 := by
        rw [hy]
        cases k with
        | zero => exact HL.out.2.1
        | succ k => exact blk16_length HL.out.2.2 (by omega)
      have HN := Lib.hid (show openN key iv p (k + 1) = openN key iv p k ++ z from by rw [openN, hz, hx, hy, hq])
      have hblk := blk_sees16 HS.out.2.2 HL.out.2.2 hlt rfl
      rw [← hq] at hblk
      have HNX := Lib.hid (show SeesP w (· < w.heap.size) (some ⟨b3, o3 + 16 * k, none⟩) (Us (pvN iv p (k + 1))) from by rw [pvN, ← hq]; exact hblk)
      have hsy := HI.out.1
      rw [← hy] at hsy
      obtain ⟨b2, o2, rfl, hb2, hc2⟩ := seen_addr hsy (by rw [hyl]; decide)
      have hww2 : Below w.heap.size w w2 := HB1.out.trans (HI.out.2.2.mono HB1.out.size)
      have HW2 := Lib.hid hww2
      have HSB := Lib.hid (show SeesP w2 (· < w2.heap.size) (some ⟨b3, o3 + 16 * k, none⟩) (Us q) from (hblk.keep fun a ha => hww2.cell ha).imp fun a ha => Nat.lt_of_lt_of_le ha hww2.size)
      have HC := Lib.hid (show (∀ j, j < 16 → w.cell? ⟨b2, o2 + j, none⟩ = some (.int .u8 ((y.getD j 0).toNat : Int))) ∧ b2 < w.heap.size from ⟨fun j hj => hc2 j (by rw [hyl]; exact hj), hb2⟩)
      have HRd := Lib.hid (show Rdy w2 key gc from HR.out.on HI.out.2.2)
      have s1 : (16 : Int) * (k : Int) ≤ 16 * (k : Int) + 16 := by omega
      have s2 : (16 : Int) * (k : Int) + 16 ≤ (c3 : Int) := by omega
      have s3 : ¬ c3 = 16 * k := by omega
      have q1 : IntKind.i64.wrap (16 * (k : Int) + 16) = 16 * (k : Int) + 16 := by rw [IntKind.wrap_i64]; omega
      have s4 : (16 * k + 16) - 16 * k = 16 := by omega
      clear hq hy hx hz hyl hblk hsy hb2 hc2 hww2 hb3
      go_wp2_with (go_at_call 53; ((with_reducible refine (mdec_n (r := x) HL.out.1 HQ.out.1 HQ.out.2.1 HRd.out HSB.out).mono ?_); rintro e w4 ⟨A4, c4, rfl, hs4, hb4⟩); have H4 := Lib.hid (show SeesP w4 (fun b => w2.heap.size ≤ b ∧ b < w4.heap.size) A4 (Us x) ∧ Below w2.heap.size w2 w4 from ⟨hs4, hb4⟩); clear hs4 hb4)
      obtain ⟨qx, ox, rfl, hqx, hcx⟩ := seen_addr H4.out.1 (by rw [HQ.out.2.2.1]; decide)
      have HCX := Lib.hid (show ∀ j, j < 16 → w4.cell? ⟨qx, ox + j, none⟩ = some (.int .u8 ((x.getD j 0).toNat : Int)) from fun j hj => hcx j (by rw [HQ.out.2.2.1]; exact hj))
      have agx : v.ownBlock ≠ some qx := fun e => by have := (own_block_lt HI.out.2.1 e).2; omega
      have HAX := Lib.hid (show v.ownBlock ≠ some qx ∧ w2.heap.size ≤ qx ∧ qx < w4.heap.size from ⟨agx, hqx⟩)
      have HJ := Lib.hid (show RvO z (openN key iv p k) (16 * k) v v 0 w1 w4 w4 from ⟨by rw [List.take_zero, List.append_nil]; exact own_below HI.out.2.1 H4.out.2, HI.out.2.2.trans (H4.out.2.mono HI.out.2.2.size), Nat.le_refl _, fun _ _ _ => rfl, fun g e => .inl e⟩)
      have hw12 := HI.out.2.2.size
      have hw24 := H4.out.2.size
      have hww1 := HB1.out.size
      clear hcx agx hqx
      go_loopw [10, 13] (fun o i wr => ∃ (j : Nat) (u : Value), j ≤ 16 ∧ i = .int .i64 (j : Int) ∧ u = o ∧ Hid (RvO z (openN key iv p k) (16 * k) v u j w1 w4 wr)) (fun _ i _ => 16 - (intOf i).toNat)
      case atStart => exact ⟨0, v, by decide, rfl, rfl, HJ⟩
      case round =>
        clear HJ
        obtain ⟨j, u, hj, rfl, rfl, HJ⟩ := hrel
        by_cases h16 : j < 16
        · obtain ⟨a, ha⟩ : ∃ a, a = x.getD j 0 := ⟨_, rfl⟩
          obtain ⟨b, hb⟩ : ∃ b, b = y.getD j 0 := ⟨_, rfl⟩
          have hx1 := (World.cell?_of_block (w := w4) (a := ⟨qx, ox + j, none⟩) (HJ.out.2.2.2.1 qx HAX.out.2.2 HAX.out.1)).trans (HCX.out j h16)
          have hx2 := ((HB1.out.trans (HJ.out.2.1.mono HB1.out.size)).cell (p := ⟨b2, o2 + j, none⟩) HC.out.2).trans (HC.out.1 j h16)
          rw [← ha] at hx1
          rw [← hb] at hx2
          have ag1 : u.ownBlock ≠ some qx := fun e => by
            rcases HJ.out.2.2.2.2 qx e with h | h
            · exact HAX.out.1 h
            · have := HAX.out.2.2; omega
          have ag2 : u.ownBlock ≠ some b2 := fun e => by have := (own_block_lt HJ.out.1 e).1; have := HC.out.2; omega
          have HAB := Lib.hid (show a ^^^ b = z.getD j 0 by rw [ha, hb]; exact HQ.out.2.2.2.2 j h16)
          have hl1 : qx < wr.heap.size := Nat.lt_of_lt_of_le HAX.out.2.2 HJ.out.2.2.1
          have hl2 : b2 < wr.heap.size := by have := HC.out.2; have := HJ.out.2.2.1; omega
          have ho := HJ.out.1
          have hwr := HJ.out.2.1.size
          obtain ⟨A5, c5, rfl⟩ := own_len ho
          have r1 : (0 : Int) ≤ (j : Int) ∧ (j : Int) < 16 := by omega
          have hsm : 16 * k + j + 1 ≤ 140737488351300 := by omega
          clear ha hb
          go_wp2_with fail
          go_region_held3 (fun w' => w'.cell? ⟨qx, ox + j, none⟩ = some (.int .u8 (a.toNat : Int)) ∧ w'.cell? ⟨b2, o2 + j, none⟩ = some (.int .u8 (b.toNat : Int)))
            (first
              | exact ⟨keep_far2 hgrow hl1 ag1 hx1, keep_far2 hgrow hl2 ag2 hx2⟩
              | go_keep)
            ((refine step_append_lies _ (by rfl) (.tmp 46) (.tmp 56) 26 (by rfl) w1.heap.size 5 i0 (.int .u8 0) 1 1 Try.underlying26 hi hz0 hz1 hz2 rfl (by decide) (.slice A5 (16 * k + j) c5) (16 * k + j) _ (by rfl) ((ho.alloc _).drew) ⟨wr.heap.size, 0, none⟩ 1 1 [.int .u8 (bits .xor .u8 (a.toNat : Int) (b.toNat : Int))] (by rfl) (by rfl) (World.news_of_block (cs := #[.int .u8 (bits .xor .u8 (a.toNat : Int) (b.toNat : Int))]) (t := 5) (fr := (0, 0)) (heap_alloc_new wr _)) (by intro u hu; simp at hu; subst hu; rfl) (by omega) (by unfold maxLen; omega) (by omega) (by simp; omega) (wr.heap.size + 1) (by simp) ?_; intro gg cap w6 hown6 hgrow hat hlt))
          go_wp2_with fail
          have HJ2 := Lib.hid (HJ.out.step HQ.out.2.2.2.1 h16 HAB.out hown6 hgrow hat)
          clear hx1 hx2 ag1 ag2 ho HJ hown6 hgrow hat hlt r1
          go_roundw
          case rel => exact ⟨j + 1, _, by omega, by go_num, rfl, HJ2⟩
          case measure => simp [intOf]; omega
        · have hj16 : j = 16 := by omega
          have dj : ¬ ((j : Int) < 16) := by omega
          have HF := Lib.hid (show RoO key iv p (k + 1) (some ⟨b3, o3 + 16 * k, none⟩) u w w1 wr from ⟨HNX.out, by
            have h := HJ.out.1
            rw [hj16, List.take_of_length_le (by rw [HQ.out.2.2.2.1]; exact Nat.le_refl _), ← HN.out] at h
            exact h, HJ.out.2.1⟩)
          clear HJ hj16 h16 hj
          go_wp2_with fail
          go_roundw
          case rel => exact ⟨k + 1, _, _, u, by omega, by rw [s4], congrArg (Value.int .i64) (by omega), rfl, HF⟩
          case measure => simp only [intOf]; omega
    · have hkm2 : k = m := by omega
      have d1 : ¬ ((16 : Int) * (k : Int) < 16 * (m : Int)) := by omega
      have HF := Lib.hid (show ∀ v, _ → Gives w (openN key iv p m) 0 (.returned (.tuple #[v, .int .i64 0])) w2 from fun v (hv : w2.ownsRow w1.heap.size 5 1 v (16 * k) (Us (openN key iv p k))) => by
        rw [hkm2] at hv
        exact gives_own hv (HB1.out.trans (HI.out.2.2.mono HB1.out.size)) (openN_length key iv p m).symm)
      have HO := Lib.hid HI.out.2.1
      clear hlt hkm hkm2 HI
      go_wp2_with fail
      go_ret2
      exact HF.out _ HO.out

theorem ref_seal_any (key iv p : List UInt8) (A1 A2 A3 : Option Addr) (c1 c2 c3 : Nat) (w : World) (m1 : key.length ≤ 140737488351300) (m2 : iv.length ≤ 140737488351300) (m3 : p.length ≤ 140737488351300)
    (h1 : SeesP w (· < w.heap.size) A1 (Us key)) (h2 : SeesP w (· < w.heap.size) A2 (Us iv)) (h3 : SeesP w (· < w.heap.size) A3 (Us p)) :
    Calls Try.prog 36 #[.slice A1 key.length c1, .slice A2 iv.length c2, .slice A3 p.length c3] w (Gives w (sealB key iv p) (vE key.length iv.length p.length)) := by
  by_cases h0 : vE key.length iv.length p.length = 0
  · obtain ⟨e1, e2, e3⟩ := vE_zero h0
    have hs := ref_seal_ok key iv p (p.length / 16) A1 A2 A3 c1 c2 c3 w e1 e2 (by omega) (by omega) h1 h2 h3
    rw [show 16 * (p.length / 16) = p.length by omega] at hs
    have eB : sealB key iv p = sealN key iv p (p.length / 16) := if_pos h0
    rw [h0, eB, e1, e2]
    exact hs
  · have eB : sealB key iv p = [] := if_neg h0
    rw [eB]
    clear h1 h2 h3 eB
    obtain ⟨n1, hn1⟩ : ∃ n, n = key.length := ⟨_, rfl⟩
    obtain ⟨n2, hn2⟩ : ∃ n, n = iv.length := ⟨_, rfl⟩
    obtain ⟨n3, hn3⟩ : ∃ n, n = p.length := ⟨_, rfl⟩
    rw [← hn1, ← hn2, ← hn3] at h0 ⊢
    rw [← hn1] at m1
    rw [← hn2] at m2
    rw [← hn3] at m3
    clear hn1 hn2 hn3
    by_cases e1 : n1 = 16
    · by_cases e2 : n2 = 16
      · subst e1 e2
        have e3 : n3 % 16 ≠ 0 := fun e => h0 (by simp [vE, e])
        have ev : vE 16 16 n3 = 2 := by simp [vE, e3]
        rw [ev]
        have d3 : ((n3 : Int) % 16 != 0) = true := by rw [bne_iff_ne]; omega
        clear h0 ev
        go_enter Try.func36, Try.ntmps36
        go_wp2
        go_ret2
        exact gives_none (Below.refl _ _)
      · subst e1
        have ev : vE 16 n2 n3 = 14 := by simp [vE, e2]
        rw [ev]
        have d2 : ((n2 : Int) != 16) = true := by rw [bne_iff_ne]; omega
        have d3 : ((n2 : Int) == 16) = false := by rw [beq_eq_false_iff_ne]; omega
        clear h0 ev
        go_enter Try.func36, Try.ntmps36
        go_wp2
        go_ret2
        exact gives_none (Below.refl _ _)
    · have ev : vE n1 n2 n3 = 14 := by simp [vE, e1]
      rw [ev]
      have d2 : ((n1 : Int) != 16) = true := by rw [bne_iff_ne]; omega
      have d3 : ((n1 : Int) == 16) = false := by rw [beq_eq_false_iff_ne]; omega
      clear h0 ev
      go_enter Try.func36, Try.ntmps36
      go_wp2
      go_ret2
      exact gives_none (Below.refl _ _)
theorem ref_open_any (key iv p : List UInt8) (A1 A2 A3 : Option Addr) (c1 c2 c3 : Nat) (w : World) (m1 : key.length ≤ 140737488351300) (m2 : iv.length ≤ 140737488351300) (m3 : p.length ≤ 140737488351300) (hc3 : p.length ≤ c3)
    (h1 : SeesP w (· < w.heap.size) A1 (Us key)) (h2 : SeesP w (· < w.heap.size) A2 (Us iv)) (h3 : SeesP w (· < w.heap.size) A3 (Us p)) :
    Calls Try.prog 38 #[.slice A1 key.length c1, .slice A2 iv.length c2, .slice A3 p.length c3] w (Gives w (openB key iv p) (vE key.length iv.length p.length)) := by
  by_cases h0 : vE key.length iv.length p.length = 0
  · obtain ⟨e1, e2, e3⟩ := vE_zero h0
    have hs := ref_open_ok key iv p (p.length / 16) A1 A2 A3 c1 c2 c3 w e1 e2 (by omega) (by omega) (by omega) h1 h2 h3
    rw [show 16 * (p.length / 16) = p.length by omega] at hs
    have eB : openB key iv p = openN key iv p (p.length / 16) := if_pos h0
    rw [h0, eB, e1, e2]
    exact hs
  · have eB : openB key iv p = [] := if_neg h0
    rw [eB]
    clear h1 h2 h3 eB
    obtain ⟨n1, hn1⟩ : ∃ n, n = key.length := ⟨_, rfl⟩
    obtain ⟨n2, hn2⟩ : ∃ n, n = iv.length := ⟨_, rfl⟩
    obtain ⟨n3, hn3⟩ : ∃ n, n = p.length := ⟨_, rfl⟩
    rw [← hn1, ← hn2, ← hn3] at h0 ⊢
    rw [← hn1] at m1
    rw [← hn2] at m2
    rw [← hn3] at m3
    clear hn1 hn2 hn3
    by_cases e1 : n1 = 16
    · by_cases e2 : n2 = 16
      · subst e1 e2
        have e3 : n3 % 16 ≠ 0 := fun e => h0 (by simp [vE, e])
        have ev : vE 16 16 n3 = 2 := by simp [vE, e3]
        rw [ev]
        have d3 : ((n3 : Int) % 16 != 0) = true := by rw [bne_iff_ne]; omega
        clear h0 ev
        go_enter Try.func38, Try.ntmps38
        go_wp2
        go_ret2
        exact gives_none (Below.refl _ _)
      · subst e1
        have ev : vE 16 n2 n3 = 14 := by simp [vE, e2]
        rw [ev]
        have d2 : ((n2 : Int) != 16) = true := by rw [bne_iff_ne]; omega
        have d3 : ((n2 : Int) == 16) = false := by rw [beq_eq_false_iff_ne]; omega
        clear h0 ev
        go_enter Try.func38, Try.ntmps38
        go_wp2
        go_ret2
        exact gives_none (Below.refl _ _)
    · have ev : vE n1 n2 n3 = 14 := by simp [vE, e1]
      rw [ev]
      have d2 : ((n1 : Int) != 16) = true := by rw [bne_iff_ne]; omega
      have d3 : ((n1 : Int) == 16) = false := by rw [beq_eq_false_iff_ne]; omega
      clear h0 ev
      go_enter Try.func38, Try.ntmps38
      go_wp2
      go_ret2
      exact gives_none (Below.refl _ _)


end Go.Proofs.Ytddobbigpoplpaa
