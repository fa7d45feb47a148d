/-
  What is proved here: what the reference's Seal (of the sixth layer) answers, for bytes that lie in memory.
-/
import Derived.Test.YtddobbigpoplpaaR11
import Derived.Test.YtddobbigpoplpaaMs
namespace Go.Proofs.Ytddobbigpoplpaa
open Go.RowKit
set_option linter.unusedVariables false

theorem menc_r {k b : List UInt8} {gc : Nat} {A : Option Addr} {c : Nat} {w : World} (hk : k.length = 16) (hb : b.length = 16) (hr : Rdy w k gc) (hx : SeesP w (· < w.heap.size) A (Us b)) :
    Calls Try.prog 51 #[.pointer (some ⟨gc, 0, none⟩), .slice A 16 c] w (Mk16 w (encL k b)) := by
  obtain ⟨AK, cK, h1, h2, h3, h4⟩ := hr
  exact ref_menc k b gc AK A cK c w hk hb h1 h3 h4 (SeesP.iff_sees.1 hx)
theorem mdec_r {k b : List UInt8} {gc : Nat} {A : Option Addr} {c : Nat} {w : World} (hk : k.length = 16) (hb : b.length = 16) (hr : Rdy w k gc) (hx : SeesP w (· < w.heap.size) A (Us b)) :
    Calls Try.prog 53 #[.pointer (some ⟨gc, 0, none⟩), .slice A 16 c] w (Mk16 w (decL k b)) := by
  obtain ⟨AK, cK, h1, h2, h3, h4⟩ := hr
  exact ref_mdec k b gc AK A cK c w hk hb h2 h3 h4 (SeesP.iff_sees.1 hx)
/-- between two rounds -/
def RsR (key iv p : List UInt8) (k : Nat) (A : Option Addr) (o : Value) (w wr : World) : Prop :=
  SeesP wr (· < wr.heap.size) A (Us (stN key iv p k)) ∧ wr.ownsRow w.heap.size 5 1 o (16 * k) (Us (sealN key iv p k)) ∧ Below w.heap.size w wr
/-- within the inner loop -/
def RqR (x y : List UInt8) (gx j : Nat) (w1 wr : World) : Prop := w1.heap.size ≤ gx ∧ Below w1.heap.size w1 wr ∧ RowB wr gx (xorK x y j)
theorem RqR.step {x y : List UInt8} {gx j : Nat} {w1 wr : World} {a b : UInt8} (h : RqR x y gx j w1 wr) (ha : a = x.getD j 0) (hb : b = y.getD j 0) :
    RqR x y gx (j + 1) w1 (wr.setCell ⟨gx, j, none⟩ (.int .u8 (bits .xor .u8 (a.toNat : Int) (b.toNat : Int)))) := by
  rw [b_xor, ha, hb]
  refine ⟨h.1, h.2.1.setCell (p := ⟨gx, j, none⟩) h.1 _, ?_⟩
  rw [← xorK_set]
  exact h.2.2.set j (x.getD j 0 ^^^ y.getD j 0)
theorem RqR.drew {x y : List UInt8} {gx j : Nat} {w1 wr : World} (h : RqR x y gx j w1 wr) : RqR x y gx j w1 wr.drew := ⟨h.1, h.2.1.drew, h.2.2.drew⟩
theorem blk_get {p : List UInt8} {k j : Nat} (h : 16 * k + j < p.length) (hj : j < 16) : (blk16 p k).getD j 0 = p.getD (16 * k + j) 0 := by
  unfold blk16
  simp only [List.getD]
  rw [List.getElem?_take, if_pos hj, List.getElem?_drop]
theorem own_block_lt {w : World} {base n : Nat} {e : TypeId} {v : Value} {xs : List Value} {g : Nat} (h : w.ownsRow base e 1 v n xs) (hg : v.ownBlock = some g) : base ≤ g ∧ g < w.heap.size := by
  rcases h.2 with ⟨rfl, _⟩ | ⟨g2, cap, cur, rfl, h1, h2, _⟩
  · cases hg
  · injection hg with hg
    subst hg
    exact ⟨h1, (Array.getElem?_eq_some_iff.1 h2).1⟩
theorem RsR.next {key iv p : List UInt8} {k : Nat} {A A2 : Option Addr} {o o2 : Value} {w wr w3 w4 w5 : World} {r : List UInt8} (h : RsR key iv p k A o w wr) (h3 : Below wr.heap.size wr w3) (hb : Below w3.heap.size w3 w4) (hs : SeesP w4 (fun b => w3.heap.size ≤ b ∧ b < w4.heap.size) A2 (Us r)) (hr : stN key iv p (k + 1) = r)
    (ho : w5.ownsRow w.heap.size 5 1 o2 (16 * k + 16) (Us (sealN key iv p k) ++ Us r)) (hg : w4.grownBy w5 o.ownBlock) : RsR key iv p (k + 1) A2 o2 w w5 := by
  obtain ⟨h1, h2, h4⟩ := h
  have hw3 : Below wr.heap.size wr w4 := h3.trans (hb.mono h3.size)
  have lt : ∀ g, o.ownBlock = some g → w.heap.size ≤ g ∧ g < wr.heap.size := fun g hg => own_block_lt h2 hg
  have hw5 : Below w.heap.size w w5 := (h4.trans (hw3.mono h4.size)).grown hg (Nat.le_trans h4.size hw3.size) (fun g e => (lt g e).1)
  have e1 : sealN key iv p (k + 1) = sealN key iv p k ++ r := by rw [sealN, hr]
  refine ⟨?_, ?_, hw5⟩
  · rw [hr]
    rcases hs with hs | ⟨b, off, e, hq, hc⟩
    · exact .inl hs
    · refine .inr ⟨b, off, e, Nat.lt_of_lt_of_le hq.2 hg.size, fun j hj => ?_⟩
      rw [← hc j hj]
      exact World.cell?_of_block (hg.block b hq.2 (fun e => by have := (lt b e.symm).2; have := h3.size; omega))
  · rw [e1, Us_append, show 16 * (k + 1) = 16 * k + 16 by omega]
    exact ho
theorem menc_n {k b r : List UInt8} {gc : Nat} {A : Option Addr} {c : Nat} {w : World} (hk : k.length = 16) (hb : b.length = 16) (he : encL k b = r) (hr : Rdy w k gc) (hx : SeesP w (· < w.heap.size) A (Us b)) :
    Calls Try.prog 51 #[.pointer (some ⟨gc, 0, none⟩), .slice A 16 c] w (MkN w r) := by
  subst he
  obtain ⟨AK, cK, h1, h2, h3, h4⟩ := hr
  exact ref_menc_n k b gc AK A cK c w hk hb h1 h3 h4 (SeesP.iff_sees.1 hx)
theorem mdec_n {k b r : List UInt8} {gc : Nat} {A : Option Addr} {c : Nat} {w : World} (hk : k.length = 16) (hb : b.length = 16) (he : decL k b = r) (hr : Rdy w k gc) (hx : SeesP w (· < w.heap.size) A (Us b)) :
    Calls Try.prog 53 #[.pointer (some ⟨gc, 0, none⟩), .slice A 16 c] w (MkN w r) := by
  subst he
  obtain ⟨AK, cK, h1, h2, h3, h4⟩ := hr
  exact ref_mdec_n k b gc AK A cK c w hk hb h2 h3 h4 (SeesP.iff_sees.1 hx)

theorem app_bytes_m {P : Program} {w : World} {ops : Array Oper} {rest : List Oper} {o : Oper} {a : Act} {Q : Exit → Act → World → Prop} (hgd : o.guard = none) (s x : Operand) (t : TypeId)
    (ho : o.op = .call { callee := .builtin .append, args := #[s, x], argTypes := #[t, t] })
    (base : Nat) (e : TypeId) (i : TypeInfo) (z : Value) (ht : P.underlying t = some (.slice e)) (hi : P.info? e = some i) (hz : i.zero = some z)
    (hsize : i.size = 1) (hby : i.bytes = 1) (hzs : z.cells.size = 1) (v : Value) (n : Nat) (xs : List Value) (hs : a.eval s = v) (hown : w.ownsRow base e 1 v n xs)
    (A : Option Addr) (c m : Nat) (cb : List UInt8) (p : Nat → Prop) (hm : cb.length = m) (hm0 : 0 < m) (hx : a.eval x = .slice A m c) (hc : SeesP w p A (Us cb))
    (hb : n + m ≤ 140737488351300) (hbase : base ≤ w.heap.size)
    (h : ∀ v' w', w'.ownsRow base e 1 v' (n + m) (xs ++ Us cb) → w.grownBy w' v.ownBlock → wpList P ops Q rest (a.put o.dst v') w') : wpList P ops Q (o :: rest) a w := by
  subst hm
  refine app_bytes hgd s x t ho base e i z ht hi hz hsize hby hzs v n xs hs hown A c cb p hx (fun e => ?_) hc (by unfold maxLen; omega) (by omega) hbase h
  subst e
  have := hc.none_nil
  have e0 : cb.length = 0 := by simpa [Us] using congrArg List.length this
  omega
theorem own_below {a b : World} {base n : Nat} {e : TypeId} {v : Value} {xs : List Value} (h : a.ownsRow base e 1 v n xs) (hb : Below a.heap.size a b) : b.ownsRow base e 1 v n xs := by
  obtain ⟨hl, h⟩ := h
  refine ⟨hl, ?_⟩
  rcases h with h | ⟨g, cap, cur, h1, h2, h3, h4⟩
  · exact .inl h
  · exact .inr ⟨g, cap, cur, h1, h2, (hb.block g (Array.getElem?_eq_some_iff.1 h3).1).trans h3, h4⟩
theorem n16p : 0 < 16 := by decide
set_option maxRecDepth 40000 in
set_option maxHeartbeats 800000 in
theorem ref_seal_ok (key iv p : List UInt8) (m : Nat) (A1 A2 A3 : Option Addr) (c1 c2 c3 : Nat) (w : World) (hk : key.length = 16) (hiv : iv.length = 16) (hp : p.length = 16 * m) (hreach : 16 * m ≤ 140737488351300)
    (h1 : SeesP w (· < w.heap.size) A1 (Us key)) (h2 : SeesP w (· < w.heap.size) A2 (Us iv)) (h3 : SeesP w (· < w.heap.size) A3 (Us p)) :
    Calls Try.prog 36 #[.slice A1 16 c1, .slice A2 16 c2, .slice A3 (16 * m) c3] w (Gives w (sealN key iv p m) 0) := by
  obtain ⟨i0, hi, hz0, hz1, hz2⟩ := info_parts info_u8p
  have HL := Lib.hid (show _ ∧ _ ∧ _ from ⟨hk, hiv, hp⟩)
  have HS := Lib.hid (show _ ∧ _ ∧ _ from ⟨h1, h2, h3⟩)
  have HK1 := Lib.hid (SeesP.iff_sees.1 h1)
  have d16 : (((16 : Int) * (m : Int)) % 16 != 0) = false := by rw [bne_eq_false_iff_eq]; omega
  clear hk hiv hp h1 h2 h3
  go_enter Try.func36, Try.ntmps36
  go_wp2_with (go_at_call 50; ((with_reducible refine (ref_ready key A1 _ _ HL.out.1 HK1.out).mono ?_); rintro e w1 ⟨gc, rfl, hrd, hb1⟩); have HR := Lib.hid hrd; have HB1 := Lib.hid hb1; clear hrd hb1)
  have HI := Lib.hid (show RsR key iv p 0 A2 (.slice none 0 0) w1 w1 from ⟨(HS.out.2.1.keep fun q hq => HB1.out.cell hq).imp fun q hq => Nat.lt_of_lt_of_le hq HB1.out.size, World.ownsRow_nil _ _ _ _, Below.refl _ _⟩)
  have HP1 := Lib.hid (show SeesP w1 (· < w1.heap.size) A3 (Us p) from (HS.out.2.2.keep fun q hq => HB1.out.cell hq).imp fun q hq => Nat.lt_of_lt_of_le hq HB1.out.size)
  go_loopw [9, 10, 11] (fun l o i wr => ∃ (k : Nat) (A : Option Addr) (c : Nat) (v : Value), k ≤ m ∧ l = .slice A 16 c ∧ i = .int .i64 (16 * (k : Int)) ∧ v = o ∧ Hid (RsR key iv p k A v w1 wr)) (fun _ _ i _ => (16 * (m : Int) - intOf i).toNat)
  case atStart => exact ⟨0, A2, c2, _, Nat.zero_le _, rfl, rfl, rfl, HI⟩
  case round =>
    clear HI
    obtain ⟨k, A, c, v, hkm, rfl, rfl, rfl, HI⟩ := hrel
    obtain ⟨w2, rfl⟩ : ∃ w2, w2 = wr := ⟨_, rfl⟩
    by_cases hlt : k < m
    · have d1 : (16 : Int) * (k : Int) < 16 * (m : Int) := by omega
      obtain ⟨x, hx⟩ : ∃ x, x = blk16 p k := ⟨_, rfl⟩
      obtain ⟨y, hy⟩ : ∃ y, y = stN key iv p k := ⟨_, rfl⟩
      have HX := Lib.hid (show x.length = 16 ∧ ∀ j, j < 16 → x.getD j 0 = p.getD (16 * k + j) 0 from ⟨by rw [hx]; exact blk16_length HL.out.2.2 hlt, fun j hj => by rw [hx]; exact blk_get (by rw [HL.out.2.2]; omega) hj⟩)
      have HY := Lib.hid (show y.length = 16 by rw [hy]; exact stN_length HL.out.2.1 k)
      have HN := Lib.hid (show stN key iv p (k + 1) = encL key (xor16 x y) from by rw [stN, hx, hy])
      have hsy := HI.out.1
      rw [← hy] at hsy
      obtain ⟨b2, o2, rfl, hb2, hc2⟩ := seen_addr hsy (by rw [HY.out]; decide)
      obtain ⟨b3, o3, rfl, hb3, hc3⟩ := seen_addr HP1.out (by rw [HL.out.2.2]; omega)
      have HC := Lib.hid (show (∀ j, j < 16 → w2.cell? ⟨b2, o2 + j, none⟩ = some (.int .u8 ((y.getD j 0).toNat : Int))) ∧ (∀ j, j < 16 → w2.cell? ⟨b3, o3 + (16 * k + j), none⟩ = some (.int .u8 ((x.getD j 0).toNat : Int))) ∧ b2 < w2.heap.size ∧ b3 < w2.heap.size from
        ⟨fun j hj => hc2 j (by rw [HY.out]; exact hj), fun j hj => by rw [HX.out.2 j hj, HI.out.2.2.cell (p := ⟨b3, o3 + (16 * k + j), none⟩) hb3]; exact hc3 _ (by rw [HL.out.2.2]; omega), hb2, Nat.lt_of_lt_of_le hb3 HI.out.2.2.size⟩)
      clear hx hy hsy hb2 hc2 hb3 hc3
      go_wp2_with ((with_reducible refine wpList_alloc_b (op := ⟨some 12, _, _, _, _, _⟩) rfl 50 rfl 16 info_s ?_); intro gx w3 hf hr; have HJ := Lib.hid (show RqR x y gx 0 w2 w3 from ⟨by rw [hf.1]; exact Nat.le_refl _, hf.bw, by rw [xorK_zero]; exact hr⟩); clear hf hr)
      go_loopw [13] (fun i wq => ∃ j : Nat, j ≤ 16 ∧ i = .int .i64 (j : Int) ∧ Hid (RqR x y gx j w2 wq)) (fun i _ => 16 - (intOf i).toNat)
      case atStart => exact ⟨0, by decide, rfl, HJ⟩
      case round =>
        clear HJ
        obtain ⟨j, hj, rfl, HJ⟩ := hrel
        by_cases h16 : j < 16
        · obtain ⟨a, ha⟩ : ∃ a, a = x.getD j 0 := ⟨_, rfl⟩
          obtain ⟨b, hb⟩ : ∃ b, b = y.getD j 0 := ⟨_, rfl⟩
          have y1 := (HJ.out.2.1.cell (p := ⟨b2, o2 + j, none⟩) HC.out.2.2.1).trans (HC.out.1 j h16)
          have y2 := (HJ.out.2.1.cell (p := ⟨b3, o3 + (16 * k + j), none⟩) HC.out.2.2.2).trans (HC.out.2.1 j h16)
          rw [← hb] at y1
          rw [← ha] at y2
          have y3 := HJ.out.2.2.cell (k := j) (by rw [xorK_length]; exact h16)
          have y4 := HJ.out.2.2.free j
          have HAB := Lib.hid (And.intro ha hb)
          have q1 : IntKind.i64.wrap (16 * (k : Int) + (j : Int)) = 16 * (k : Int) + (j : Int) := by rw [IntKind.wrap_i64]; omega
          have r1 : (0 : Int) ≤ 16 * (k : Int) + (j : Int) ∧ 16 * (k : Int) + (j : Int) < 16 * (m : Int) := by omega
          have r2 : (j : Int) < 16 := by omega
          have n1 : (16 * (k : Int) + (j : Int)).toNat = 16 * k + j := by omega
          clear ha hb
          go_wp2_with fail
          go_still_tail 13, (by kernel_rfl)
          change wpList _ _ _ _ _ wr.drew
          have y3' : wr.drew.cell? ⟨gx, j, none⟩ = some (.int .u8 (((xorK x y j).getD j 0).toNat : Int)) := y3
          have y4' : wr.drew.frozen? ⟨gx, j, none⟩ = false := y4
          have HJ2 := Lib.hid HJ.out.drew
          clear HJ y1 y2 y3 y4 q1 n1 r1
          generalize wr.drew = w4 at *
          go_wp2_with fail
          go_roundw
          case rel => exact ⟨j + 1, by omega, by go_num, Lib.hid (HJ2.out.step HAB.out.1 HAB.out.2)⟩
          case measure => simp [intOf]; omega
        · have hj16 : j = 16 := by omega
          have dj : ¬ ((j : Int) < 16) := by omega
          obtain ⟨r, hr⟩ : ∃ r, r = encL key (xor16 x y) := ⟨_, rfl⟩
          have HE := Lib.hid (show encL key (xor16 x y) = r ∧ r.length = 16 ∧ (xor16 x y).length = 16 from ⟨hr.symm, by rw [hr]; exact encL_length _ _, xor16_length _ _⟩)
          have HQ := Lib.hid (show w2.heap.size ≤ gx ∧ Below w2.heap.size w2 wr ∧ RowB wr gx (xor16 x y) from by have h := HJ.out; rw [hj16] at h; exact ⟨h.1, h.2.1, by have h2 := h.2.2; rw [xorK_all] at h2; exact h2⟩)
          have HRd := Lib.hid (show Rdy wr key gc from HR.out.on (HI.out.2.2.trans (HQ.out.2.1.mono HI.out.2.2.size)))
          have HSx := Lib.hid (HQ.out.2.2.sees (· < wr.heap.size) HQ.out.2.2.lt)
          have hsz1 := HI.out.2.2.size
          have hszq := HQ.out.2.1.size
          have hb16 : 16 * k + 16 ≤ 140737488351300 := by omega
          clear HJ hj16 hr hj h16
          have HO := Lib.hid (own_below HI.out.2.1 HQ.out.2.1)
          go_wp2_with (first
            | (go_at_call 51; ((with_reducible refine (menc_n (r := r) HL.out.1 HE.out.2.2 HE.out.1 HRd.out HSx.out).mono ?_); rintro e w4 ⟨A4, c4, rfl, hs4, hb4⟩); have H4 := Lib.hid (show SeesP w4 (fun b => wr.heap.size ≤ b ∧ b < w4.heap.size) A4 (Us r) ∧ Below wr.heap.size wr w4 ∧ w1.heap.size ≤ w4.heap.size from ⟨hs4, hb4, Nat.le_trans (Nat.le_trans hsz1 hszq) hb4.size⟩); have HO4 := Lib.hid (own_below HO.out hb4); clear hs4 hb4)
            | (at_builtin; ((with_reducible refine app_bytes_m rfl (.tmp 55) (.tmp 56) 26 rfl w1.heap.size 5 i0 (.int .u8 0) Try.underlying26 hi hz0 hz1 hz2 rfl v (16 * k) _ rfl HO4.out A4 c4 16 r _ HE.out.2.1 n16p rfl H4.out.1 hb16 H4.out.2.2 ?_); intro v5 w5 ho5 hg5); have H5 := Lib.hid (RsR.next HI.out HQ.out.2.1 H4.out.2.1 H4.out.1 (HN.out.trans HE.out.1) ho5 hg5); clear ho5 hg5))
          go_roundw
          case rel => exact ⟨k + 1, A4, c4, v5, by omega, rfl, congrArg (Value.int .i64) (by omega), rfl, H5⟩
          case measure => simp only [intOf]; omega
    · have hkm2 : k = m := by omega
      have d1 : ¬ ((16 : Int) * (k : Int) < 16 * (m : Int)) := by omega
      have HF := Lib.hid (show ∀ v, _ → Gives w (sealN key iv p m) 0 (.returned (.tuple #[v, .int .i64 0])) w2 from fun v (hv : w2.ownsRow w1.heap.size 5 1 v (16 * k) (Us (sealN key iv p k))) => by
        rw [hkm2] at hv
        exact gives_own hv (HB1.out.trans (HI.out.2.2.mono HB1.out.size)) (sealN_length HL.out.2.1 m).symm)
      have HO := Lib.hid HI.out.2.1
      clear hlt hkm hkm2 HI
      go_wp2_with fail
      go_ret2
      exact HF.out _ HO.out

end Go.Proofs.Ytddobbigpoplpaa
