/-
  What is proved here: what the makers' Loose gives for objects of any kind (some bytes, not too many), and what Odd gives: objects of which one is changed, that lie apart from the dice.
-/
import Derived.Test.YtipmmclahngabaaRows
import Derived.Test.YtipmmclahngabaaKit
import Derived.Test.YtipmmclahngabaaLse
import Derived.Test.YtipmmclahngabaaFoQ
import Derived.Test.YtipmmclahngabaaSpl
import Derived.Deep.RegionWith
import Derived.Deep.Draws
namespace Go.Proofs.Ytipmmclahngabaa
open Go.RowKit
set_option linter.unusedVariables false

/-- objects of any kind with short Values -/
def F.od : F → Prop
  | .nil => True
  | .cons t v k r => (-9223372036854775808 ≤ t ∧ t ≤ 9223372036854775807) ∧ v.length ≤ 310 ∧ k.od ∧ r.od
theorem F.gd_od : ∀ {f : F} {m : Nat}, f.gd m → f.od
  | .nil, _, _ => trivial
  | .cons t v k r, m, ⟨h1, h2, h3, h4, h5, h6, h7, h8⟩ => by
    have := valid_range h2
    exact ⟨⟨by omega, by omega⟩, by omega, F.gd_od h7, F.gd_od h8⟩
theorem F.od_ok : ∀ {f : F}, f.od → f.ok
  | .nil, _ => trivial
  | .cons t v k r, ⟨h1, h2, h3, h4⟩ => ⟨h1, by omega, F.od_ok h3, F.od_ok h4⟩
theorem F.od_sm : ∀ {f : F}, f.od → f.sm
  | .nil, _ => trivial
  | .cons t v k r, ⟨h1, h2, h3, h4⟩ => ⟨by omega, F.od_sm h3, F.od_sm h4⟩
theorem F.od_app {g : F} : ∀ {f : F}, f.od → g.od → (f.app g).od
  | .nil, _, h => h
  | .cons _ _ _ _, ⟨h1, h2, h3, h4⟩, h => ⟨h1, h2, h3, F.od_app h4 h⟩
theorem m1 (z : Int) : #[Value.int .u8 (z % 256)].toList = Us [UInt8.ofNat (z % 256).toNat] := by simp [Us, U]; omega

/-- what Loose answers -/
def LosIs (w : World) (D : Nat) (f : F) (e : Ending) (w' : World) : Prop := ∃ (b : List UInt8) (A : Option Addr) (c : Nat), e = .returned (.slice A b.length c) ∧ b.length ≤ c ∧ (A = none → c = 0) ∧ SeesP w' (newB w w') A (Us b) ∧ b.length ≤ f.size * 400 ∧ w.grownBy w' (some D) ∧ DiceOk w' D
/-- what Loose's loop keeps: g is to come -/
def LosRel (w : World) (D : Nat) (p : Nat → Prop) (cs : List Value) (f : F) (v : Value) (j : Nat) (g : F) (l : List UInt8) (wr : World) : Prop :=
  St2 w D l v wr ∧ HoldsP w p g (cs.drop (3 * j)) ∧ l.length + g.size * 400 ≤ f.size * 400
theorem LosRel.step {w w2 : World} {D : Nat} {p : Nat → Prop} {cs : List Value} {f : F} {v2 : Value} {j : Nat} {t : Int} {v cb : List UInt8} {kk r : F} {l L2 hd tl L : List UInt8}
    (hh : HoldsP w p r (cs.drop (3 * (j + 1)))) (hx : l.length + (F.cons t v kk r).size * 400 ≤ f.size * 400) (h2 : L2.length ≤ l.length + 2) (hL : L = L2 ++ hd ++ cb ++ tl) (hst : St2 w D L v2 w2) (hcb : cb.length ≤ 310 + kk.size * 400) (hhl : hd.length + tl.length ≤ 5) : LosRel w D p cs f v2 (j + 1) r L w2 := by
  refine ⟨hst, hh, ?_⟩
  rw [hL]
  simp only [List.length_append, F.size] at hx ⊢
  omega

def LosAll (n : Nat) : Prop := ∀ (f : F) (A : Option Addr) (c D : Nat) (w : World), f.size < n → f.od → SeesF w (fun b => b < w.heap.size ∧ b ≠ D) A f → DiceOk w D →
  Calls Try.prog 35 #[.pointer (some ⟨D, 0, none⟩), .slice A f.len c] w (LosIs w D f)

set_option maxRecDepth 20000 in
set_option maxHeartbeats 8000000 in
theorem made_los (n : Nat) (hn : n ≤ 5000) : LosAll n := by
  induction n with
  | zero => intro f A c D w h; omega
  | succ n ih =>
    intro f A c D w hsz hgd hs hdo
    obtain ⟨i0, hi, hz0, hz1, hz2⟩ := info_parts info_u8b
    obtain ⟨cs, s1, k1⟩ := hs
    have hDw := hdo.lt
    have hlen := f.len_le_size
    have IH := Lib.hid (ih (by omega))
    have HS := Lib.hid (show SeesP w (fun b => b < w.heap.size ∧ b ≠ D) A cs from s1)
    have H0 := Lib.hid (show LosRel w D (fun b => b < w.heap.size ∧ b ≠ D) cs f (.slice none 0 0) 0 f [] w from ⟨⟨⟨rfl, .inl ⟨rfl, rfl⟩⟩, World.grownBy.refl _ _, hdo⟩, k1, by simp⟩)
    have HGD := Lib.hid hgd
    clear ih s1 k1 hdo hgd
    go_enter Try.func35, Try.ntmps35
    go_wp2_with fail
    go_loopw [5, 6] (fun v i wr => ∃ (j : Nat) (g : F) (l : List UInt8), j + g.len = f.len ∧ i = .int .i64 (j : Int) ∧ g.size ≤ f.size ∧ Hid (LosRel w D (fun b => b < w.heap.size ∧ b ≠ D) cs f v j g l wr ∧ g.od)) (fun _ i _ => f.len - (intOf i).toNat)
    case atStart => exact ⟨0, f, [], by omega, rfl, Nat.le_refl _, Lib.hid ⟨H0.out, HGD.out⟩⟩
    case round =>
      clear H0 HGD
      obtain ⟨j, g, l, hj, rfl, hgs, HG⟩ := hrel
      cases g with
      | nil =>
        have hb : LosIs w D f (.returned u5) wr := by
          obtain ⟨⟨st, _, d3⟩, _⟩ := HG.out
          rcases st.1.2 with ⟨e, h0⟩ | ⟨g, cap, cur, e, hb, hh, hn, hmx, hs, ht⟩
          · have : l = [] := List.eq_nil_of_length_eq_zero h0
            subst this
            exact ⟨[], none, 0, by rw [e]; rfl, by simp, fun _ => rfl, .inl rfl, by simp, st.2.1, st.2.2⟩
          · refine ⟨l, some ⟨g, 0, none⟩, cap, by rw [e], hn, (fun e2 => by cases e2), Or.inr ⟨g, 0, rfl, ⟨hb, lt_of_block hh⟩, fun i hi => ?_⟩, by simp only [F.size] at d3; omega, st.2.1, st.2.2⟩
            rw [Us_length] at hi
            rw [Nat.zero_add, cell_of_row wr g i cur _ (0, 0) hh, ← ht, List.getElem?_take, if_pos (by omega), Array.getElem?_toList]
        have hj2 : j = f.len := hj
        have HF := Lib.hid hb
        clear hb HG hj
        go_wp2_with fail
        go_ret
        exact HF.out
      | cons T v kk r =>
        have hj1 : j + r.len + 1 = f.len := hj
        have hgs1 : kk.size + r.size + 1 ≤ f.size := hgs
        obtain ⟨⟨st, hh, hx⟩, ⟨⟨ht1, ht2⟩, g5, g7, g8⟩⟩ := HG.out
        have hl4 : l.length ≤ 400 * f.size := by omega
        obtain ⟨b, off, Av, cv, Ak, ck, rfl, hp, x0, x1, x2, sv, sk, hr, hnv⟩ := node_at HS.out hh
        have hlt : j < f.len := by omega
        have y0 := (grown_cell st.2.1 (p := ⟨b, off + j * 3, none⟩) hp.1 hp.2).trans x0
        have HP := Lib.hid (show b < w.heap.size ∧ b ≠ D from hp)
        have HX := Lib.hid (show l.length + (F.cons T v kk r).size * 400 ≤ f.size * 400 ∧ HoldsP w (fun b => b < w.heap.size ∧ b ≠ D) r (cs.drop (3 * (j + 1))) ∧ SeesP w (fun b => b < w.heap.size ∧ b ≠ D) Av (Us v) ∧ SeesF w (fun b => b < w.heap.size ∧ b ≠ D) Ak kk ∧ (Av = none → cv = 0) ∧ r.od from ⟨hx, hr, sv, sk, hnv, g8⟩)
        have HQ := Lib.hid (show kk.od ∧ v.length ≤ 310 ∧ w.cell? ⟨b, off + j * 3 + 1, none⟩ = some (.slice Av v.length cv) ∧ w.cell? ⟨b, off + j * 3 + 2, none⟩ = some (.slice Ak kk.len ck) from ⟨g7, g5, x1, x2⟩)
        have ST := Lib.hid st
        have HK := Lib.hid (fun u => ref_cons T ht1 ht2 u)
        have hown := st.1
        have hwsz := st.2.1.size
        clear hj hgs HG hh hx hr sv sk hnv g5 g7 g8 x0 x1 x2 hp st
        go_upto_if 23 with fail
        go_cut [5] from 11 to 128 (fun v5 wx => ∃ l1 : List UInt8, Hid (St2 w D l1 v5 wx ∧ l1.length ≤ l.length + 1))
        case first =>
          by_cases h255 : 255 < T
          · have d255 : decide ((255 : Int) < T) = true := by simp; omega
            go_wp2_with (at_builtin; refine wpList_append_own _ rfl (.tmp 24) (.tmp 28) 27 rfl w.heap.size 5 i0 (.int .u8 0) 1 1 Try.underlying27 hi hz0 hz1 hz2 rfl (by decide) u5 (l.length) _ rfl (hown.alloc _) ⟨_, 0, none⟩ 1 1 _ rfl rfl (World.news_of_block (heap_alloc_new _ _)) (u8s_cells (m1 (T / 256))) (by unfold maxLen; omega) (by omega) (by simp; omega) ?_; intro va wa ho hg _; have ST1 := Lib.hid (St2.app (xs := [UInt8.ofNat (T / 256 % 256).toNat]) ST.out hDw rfl (m1 (T / 256)) ho hg))
            go_meet
            exact ⟨_, Lib.hid ⟨ST1.out, by simp⟩⟩
          · have d255 : decide ((255 : Int) < T) = false := by simp; omega
            go_wp2_with fail
            go_meet
            exact ⟨_, Lib.hid ⟨ST.out, by omega⟩⟩
        case rest =>
          obtain ⟨l1, HC⟩ := hcut
          clear hown hwsz ST y0
          have hown1 := HC.out.1.1
          have hsz1 := HC.out.1.2.1.size
          have hl1 := HC.out.2
          go_upto_if 42 with (first | (at_builtin; refine wpList_append_own _ rfl (.tmp 30) (.tmp 33) 27 rfl w.heap.size 5 i0 (.int .u8 0) 1 1 Try.underlying27 hi hz0 hz1 hz2 rfl (by decide) u5 (l1.length) _ rfl (hown1.alloc _) ⟨_, 0, none⟩ 1 1 _ rfl rfl (World.news_of_block (heap_alloc_new _ _)) (u8s_cells (m1 T)) (by unfold maxLen; omega) (by omega) (by simp; omega) ?_; intro vb wb ho hg _; have STX := Lib.hid (St2.app (xs := [UInt8.ofNat (T % 256).toNat]) HC.out.1 hDw rfl (m1 T) ho hg); have ST2 := Lib.hid (show St2 w D (l1 ++ [UInt8.ofNat (T % 256).toNat]) vb wb ∧ (l1 ++ [UInt8.ofNat (T % 256).toNat]).length ≤ l.length + 2 from ⟨STX.out, by rw [List.length_append]; have : [UInt8.ofNat (T % 256).toNat].length = 1 := rfl; omega⟩); have y1 := (grown_cell ST2.out.1.2.1 (p := ⟨b, off + j * 3 + 1, none⟩) HP.out.1 HP.out.2).trans HQ.out.2.2.1; have y2 := (grown_cell ST2.out.1.2.1 (p := ⟨b, off + j * 3 + 2, none⟩) HP.out.1 HP.out.2).trans HQ.out.2.2.2; have hsz2 := ST2.out.1.2.1.size; clear ho hg STX) | (go_at_call 15; refine (HK.out _).mono ?_; rintro e w' ⟨rfl, rfl⟩))
          clear hown1 hsz1 hl1 HC y1
          go_cut [8, 9] from 11 to 128 (fun v8 v9 wx => ∃ (A : Option Addr) (cn : Nat) (cb L2 : List UInt8), v9 = .bool (consB T) ∧ v8 = .slice A cb.length cn ∧ Hid (St2 w D L2 vb wx ∧ L2.length ≤ l.length + 2 ∧ SeesP wx (fun q => q < wx.heap.size ∧ vb.ownBlock ≠ some q ∧ q ≠ D) A (Us cb) ∧ (A = none → cn = 0) ∧ cb.length ≤ 310 + kk.size * 400))
          case first =>
            cases hcb : consB T
            · go_wp2_with fail
              go_meet
              refine ⟨Av, cv, v, _, congrArg Value.bool hcb.symm, rfl, Lib.hid ⟨ST2.out.1, ST2.out.2, ?_, HX.out.2.2.2.2.1, by have := HQ.out.2.1; omega⟩⟩
              refine (HX.out.2.2.1.keep fun q hq => grown_cell ST2.out.1.2.1 hq.1 hq.2).imp fun q hq => ⟨by omega, ?_, hq.2⟩
              intro e
              have := own_row ST2.out.1.1 q e
              omega
            · have hs2 : SeesF _ (fun q => q < _ ∧ q ≠ D) Ak kk := (HX.out.2.2.2.1.keep fun q hq => grown_cell ST2.out.1.2.1 hq.1 hq.2).imp fun q hq => ⟨Nat.lt_of_lt_of_le hq.1 hsz2, hq.2⟩
              have HI := Lib.hid (IH.out kk Ak ck D _ (by omega) HQ.out.1 hs2 ST2.out.1.2.2)
              clear hs2
              go_wp2_with fail
              refine HI.out.mono ?_
              rintro e w2 ⟨bb, A2, c2, rfl, hcl, hcn, hss, hbl, hgr, hdo⟩
              have HZ := Lib.hid (show _ ∧ _ ∧ _ ∧ _ ∧ _ from ⟨hcn, hss, hbl, hgr, hdo⟩)
              clear hcl hcn hss hbl hgr hdo HI
              go_wp2_with fail
              go_meet
              obtain ⟨hcn, hss, hbl, hgr, hdo⟩ := HZ.out
              refine ⟨A2, c2, bb, _, congrArg Value.bool hcb.symm, rfl, Lib.hid ⟨ST2.out.1.far hDw hgr hdo, ST2.out.2, hss.imp fun q hq => ⟨hq.2, ?_, ?_⟩, hcn, by omega⟩⟩
              · intro e
                have := (ST2.out.1.1.lt q e).2
                have := hq.1
                omega
              · have := hq.1
                omega
          case rest =>
            obtain ⟨A, cn, cb, L2, rfl, rfl, HC2⟩ := hcut
            clear ST2 y2 hsz2
            have hL2 : L2.length ≤ l.length + 2 := HC2.out.2.1
            have hcbl : cb.length ≤ 2000310 := by have := HC2.out.2.2.2.2; omega
            have HN := Lib.hid (dice_next D 6 wc (by decide) (by decide) HC2.out.1.2.2)
            go_wp2_with fail
            refine HN.out.mono ?_
            rintro e wy ⟨q, hq, rfl, hgy, hdy⟩
            have HY := Lib.hid (show St2 w D L2 vb wy ∧ SeesP wy (fun q => q < wy.heap.size ∧ vb.ownBlock ≠ some q ∧ q ≠ D) A (Us cb) ∧ (A = none → cb = []) from ⟨HC2.out.1.far hDw hgy hdy, Con.grown HC2.out.2.2.1 hgy, fun e => by have h := HC2.out.2.2.1; rw [e] at h; have := congrArg List.length h.none_nil; rw [Us_length] at this; exact List.eq_nil_of_length_eq_zero this⟩)
            have hown := HY.out.1.1
            have hsz := HY.out.1.2.1.size
            clear HN hgy hdy
            have hqs : q = 0 ∨ q = 1 ∨ q = 2 ∨ q = 3 ∨ q = 4 ∨ q = 5 := by omega
            rcases hqs with rfl | rfl | rfl | rfl | rfl | rfl
            · have hdq : True := trivial
              by_cases h128 : cb.length < 128
              · have d128 : decide ((cb.length : Int) < 128) = true := by simp; omega
                go_wp2_with (first | (at_builtin; refine wpList_append_own _ rfl (.tmp 56) (.tmp 59) 27 rfl w.heap.size 5 i0 (.int .u8 0) 1 1 Try.underlying27 hi hz0 hz1 hz2 rfl (by decide) vb (L2.length) _ rfl (hown.alloc _) ⟨_, 0, none⟩ 1 1 _ rfl rfl (World.news_of_block (heap_alloc_new _ _)) (u8s_cells (h00 (n := cb.length) (by omega))) (by unfold maxLen; omega) (by omega) (by simp; omega) ?_; intro v3 w3 ho hg _; have ST3 := Lib.hid (St2.app (xs := [UInt8.ofNat cb.length]) HY.out.1 hDw rfl (h00 (n := cb.length) (by omega)) ho hg); have CON := Lib.hid (con_row (HY.out.2.1.imp fun q hq => ⟨hq.1, hq.2.1⟩) hg); have hsz3 := ST3.out.2.1.size; have hln3 : (L2 ++ [UInt8.ofNat cb.length]).length ≤ L2.length + 5 := (by simp); clear ho hg) | (at_builtin; refine append_con rfl (.tmp 126) (.tmp 127) 27 rfl w.heap.size 5 i0 (.int .u8 0) Try.underlying27 hi hz0 hz1 hz2 rfl v3 _ _ rfl ST3.out.1 A cn cb rfl HC2.out.2.2.2.1 HY.out.2.2 CON.out (by unfold maxLen; omega) (by omega) hsz3 ?_; intro v4 w4 ho4 hg4; have ST4 := Lib.hid (St2.src ST3.out hDw ho4 hg4); clear ho4 hg4))
                have HF := Lib.hid (show LosRel w D (fun b => b < w.heap.size ∧ b ≠ D) cs f _ (j + 1) r _ _ ∧ r.od from ⟨LosRel.step (tl := []) (hd := [UInt8.ofNat cb.length]) HX.out.2.1 HX.out.1 HC2.out.2.1 (List.append_nil _).symm ST4.out HC2.out.2.2.2.2 (by simp), HX.out.2.2.2.2.2⟩)
                clear ST4 
                go_roundw
                case rel => exact ⟨j + 1, r, _, by omega, by go_num, by omega, HF⟩
                case measure => simp [intOf]; omega
              · have d128 : decide ((cb.length : Int) < 128) = false := by simp; omega
                go_wp2_with (first | (at_builtin; refine wpList_append_own _ rfl (.tmp 61) (.tmp 67) 27 rfl w.heap.size 5 i0 (.int .u8 0) 1 1 Try.underlying27 hi hz0 hz1 hz2 rfl (by decide) vb (L2.length) _ rfl (hown.alloc _) ⟨_, 0, none⟩ 3 3 [.int .u8 130, .int .u8 ((cb.length : Int) / 256 % 256), .int .u8 ((cb.length : Int) % 256)] rfl rfl (World.news_of_block (heap_alloc_new _ _)) (u8s_cells (h82 cb.length)) (by unfold maxLen; omega) (by omega) (by simp; omega) ?_; intro v3 w3 ho hg _; have ST3 := Lib.hid (St2.app (xs := [130, UInt8.ofNat (cb.length / 256), UInt8.ofNat cb.length]) HY.out.1 hDw rfl (h82 cb.length) ho hg); have CON := Lib.hid (con_row (HY.out.2.1.imp fun q hq => ⟨hq.1, hq.2.1⟩) hg); have hsz3 := ST3.out.2.1.size; have hln3 : (L2 ++ [130, UInt8.ofNat (cb.length / 256), UInt8.ofNat cb.length]).length ≤ L2.length + 5 := (by simp); clear ho hg) | (at_builtin; refine append_con rfl (.tmp 126) (.tmp 127) 27 rfl w.heap.size 5 i0 (.int .u8 0) Try.underlying27 hi hz0 hz1 hz2 rfl v3 _ _ rfl ST3.out.1 A cn cb rfl HC2.out.2.2.2.1 HY.out.2.2 CON.out (by unfold maxLen; omega) (by omega) hsz3 ?_; intro v4 w4 ho4 hg4; have ST4 := Lib.hid (St2.src ST3.out hDw ho4 hg4); clear ho4 hg4))
                have HF := Lib.hid (show LosRel w D (fun b => b < w.heap.size ∧ b ≠ D) cs f _ (j + 1) r _ _ ∧ r.od from ⟨LosRel.step (tl := []) (hd := [130, UInt8.ofNat (cb.length / 256), UInt8.ofNat cb.length]) HX.out.2.1 HX.out.1 HC2.out.2.1 (List.append_nil _).symm ST4.out HC2.out.2.2.2.2 (by simp), HX.out.2.2.2.2.2⟩)
                clear ST4 
                go_roundw
                case rel => exact ⟨j + 1, r, _, by omega, by go_num, by omega, HF⟩
                case measure => simp [intOf]; omega
            · have hdq : True := trivial
              go_wp2_with (first | (at_builtin; refine wpList_append_own _ rfl (.tmp 71) (.tmp 77) 27 rfl w.heap.size 5 i0 (.int .u8 0) 1 1 Try.underlying27 hi hz0 hz1 hz2 rfl (by decide) vb (L2.length) _ rfl (hown.alloc _) ⟨_, 0, none⟩ 4 4 [.int .u8 131, .int .u8 0, .int .u8 ((cb.length : Int) / 256 % 256), .int .u8 ((cb.length : Int) % 256)] rfl rfl (World.news_of_block (heap_alloc_new _ _)) (u8s_cells (h83 cb.length)) (by unfold maxLen; omega) (by omega) (by simp; omega) ?_; intro v3 w3 ho hg _; have ST3 := Lib.hid (St2.app (xs := [131, 0, UInt8.ofNat (cb.length / 256), UInt8.ofNat cb.length]) HY.out.1 hDw rfl (h83 cb.length) ho hg); have CON := Lib.hid (con_row (HY.out.2.1.imp fun q hq => ⟨hq.1, hq.2.1⟩) hg); have hsz3 := ST3.out.2.1.size; have hln3 : (L2 ++ [131, 0, UInt8.ofNat (cb.length / 256), UInt8.ofNat cb.length]).length ≤ L2.length + 5 := (by simp); clear ho hg) | (at_builtin; refine append_con rfl (.tmp 126) (.tmp 127) 27 rfl w.heap.size 5 i0 (.int .u8 0) Try.underlying27 hi hz0 hz1 hz2 rfl v3 _ _ rfl ST3.out.1 A cn cb rfl HC2.out.2.2.2.1 HY.out.2.2 CON.out (by unfold maxLen; omega) (by omega) hsz3 ?_; intro v4 w4 ho4 hg4; have ST4 := Lib.hid (St2.src ST3.out hDw ho4 hg4); clear ho4 hg4))
              have HF := Lib.hid (show LosRel w D (fun b => b < w.heap.size ∧ b ≠ D) cs f _ (j + 1) r _ _ ∧ r.od from ⟨LosRel.step (tl := []) (hd := [131, 0, UInt8.ofNat (cb.length / 256), UInt8.ofNat cb.length]) HX.out.2.1 HX.out.1 HC2.out.2.1 (List.append_nil _).symm ST4.out HC2.out.2.2.2.2 (by simp), HX.out.2.2.2.2.2⟩)
              clear ST4 
              go_roundw
              case rel => exact ⟨j + 1, r, _, by omega, by go_num, by omega, HF⟩
              case measure => simp [intOf]; omega
            · have hdq : True := trivial
              go_wp2_with (first | (at_builtin; refine wpList_append_own _ rfl (.tmp 81) (.tmp 87) 27 rfl w.heap.size 5 i0 (.int .u8 0) 1 1 Try.underlying27 hi hz0 hz1 hz2 rfl (by decide) vb (L2.length) _ rfl (hown.alloc _) ⟨_, 0, none⟩ 5 5 [.int .u8 132, .int .u8 0, .int .u8 0, .int .u8 ((cb.length : Int) / 256 % 256), .int .u8 ((cb.length : Int) % 256)] rfl rfl (World.news_of_block (heap_alloc_new _ _)) (u8s_cells (h84 cb.length)) (by unfold maxLen; omega) (by omega) (by simp; omega) ?_; intro v3 w3 ho hg _; have ST3 := Lib.hid (St2.app (xs := [132, 0, 0, UInt8.ofNat (cb.length / 256), UInt8.ofNat cb.length]) HY.out.1 hDw rfl (h84 cb.length) ho hg); have CON := Lib.hid (con_row (HY.out.2.1.imp fun q hq => ⟨hq.1, hq.2.1⟩) hg); have hsz3 := ST3.out.2.1.size; have hln3 : (L2 ++ [132, 0, 0, UInt8.ofNat (cb.length / 256), UInt8.ofNat cb.length]).length ≤ L2.length + 5 := (by simp); clear ho hg) | (at_builtin; refine append_con rfl (.tmp 126) (.tmp 127) 27 rfl w.heap.size 5 i0 (.int .u8 0) Try.underlying27 hi hz0 hz1 hz2 rfl v3 _ _ rfl ST3.out.1 A cn cb rfl HC2.out.2.2.2.1 HY.out.2.2 CON.out (by unfold maxLen; omega) (by omega) hsz3 ?_; intro v4 w4 ho4 hg4; have ST4 := Lib.hid (St2.src ST3.out hDw ho4 hg4); clear ho4 hg4))
              have HF := Lib.hid (show LosRel w D (fun b => b < w.heap.size ∧ b ≠ D) cs f _ (j + 1) r _ _ ∧ r.od from ⟨LosRel.step (tl := []) (hd := [132, 0, 0, UInt8.ofNat (cb.length / 256), UInt8.ofNat cb.length]) HX.out.2.1 HX.out.1 HC2.out.2.1 (List.append_nil _).symm ST4.out HC2.out.2.2.2.2 (by simp), HX.out.2.2.2.2.2⟩)
              clear ST4 
              go_roundw
              case rel => exact ⟨j + 1, r, _, by omega, by go_num, by omega, HF⟩
              case measure => simp [intOf]; omega
            · have hdq : True := trivial
              cases hcb : consB T
              · have hdum : True := trivial
                go_wp2_with (first | (at_builtin; refine wpList_append_own _ rfl (.tmp 101) (.tmp 107) 27 rfl w.heap.size 5 i0 (.int .u8 0) 1 1 Try.underlying27 hi hz0 hz1 hz2 rfl (by decide) vb (L2.length) _ rfl (hown.alloc _) ⟨_, 0, none⟩ 3 3 [.int .u8 130, .int .u8 ((cb.length : Int) / 256 % 256), .int .u8 ((cb.length : Int) % 256)] rfl rfl (World.news_of_block (heap_alloc_new _ _)) (u8s_cells (h82 cb.length)) (by unfold maxLen; omega) (by omega) (by simp; omega) ?_; intro v3 w3 ho hg _; have ST3 := Lib.hid (St2.app (xs := [130, UInt8.ofNat (cb.length / 256), UInt8.ofNat cb.length]) HY.out.1 hDw rfl (h82 cb.length) ho hg); have CON := Lib.hid (con_row (HY.out.2.1.imp fun q hq => ⟨hq.1, hq.2.1⟩) hg); have hsz3 := ST3.out.2.1.size; have hln3 : (L2 ++ [130, UInt8.ofNat (cb.length / 256), UInt8.ofNat cb.length]).length ≤ L2.length + 5 := (by simp); clear ho hg) | (at_builtin; refine append_con rfl (.tmp 126) (.tmp 127) 27 rfl w.heap.size 5 i0 (.int .u8 0) Try.underlying27 hi hz0 hz1 hz2 rfl v3 _ _ rfl ST3.out.1 A cn cb rfl HC2.out.2.2.2.1 HY.out.2.2 CON.out (by unfold maxLen; omega) (by omega) hsz3 ?_; intro v4 w4 ho4 hg4; have ST4 := Lib.hid (St2.src ST3.out hDw ho4 hg4); clear ho4 hg4))
                have HF := Lib.hid (show LosRel w D (fun b => b < w.heap.size ∧ b ≠ D) cs f _ (j + 1) r _ _ ∧ r.od from ⟨LosRel.step (tl := []) (hd := [130, UInt8.ofNat (cb.length / 256), UInt8.ofNat cb.length]) HX.out.2.1 HX.out.1 HC2.out.2.1 (List.append_nil _).symm ST4.out HC2.out.2.2.2.2 (by simp), HX.out.2.2.2.2.2⟩)
                clear ST4 
                go_roundw
                case rel => exact ⟨j + 1, r, _, by omega, by go_num, by omega, HF⟩
                case measure => simp [intOf]; omega
              · have eq80 : #[Value.int .u8 128].toList = Us [128] := rfl
                have eq00 : #[Value.int .u8 0, .int .u8 0].toList = Us [0, 0] := rfl
                go_wp2_with (first | (at_builtin; refine wpList_append_own _ rfl (.tmp 92) (.tmp 93) 27 rfl w.heap.size 5 i0 (.int .u8 0) 1 1 Try.underlying27 hi hz0 hz1 hz2 rfl (by decide) vb (L2.length) _ rfl (hown.alloc _) ⟨_, 0, none⟩ 1 1 _ rfl rfl (World.news_of_block (heap_alloc_new _ _)) (u8s_cells eq80) (by unfold maxLen; omega) (by omega) (by simp; omega) ?_; intro v3 w3 ho hg _; have ST3 := Lib.hid (St2.app (xs := [128]) HY.out.1 hDw rfl eq80 ho hg); have CON := Lib.hid (con_row (HY.out.2.1.imp fun q hq => ⟨hq.1, hq.2.1⟩) hg); have hsz3 := ST3.out.2.1.size; have hln3 : (L2 ++ [128]).length ≤ L2.length + 5 := (by simp); clear ho hg) | (at_builtin; refine append_con rfl (.tmp 95) (.tmp 96) 27 rfl w.heap.size 5 i0 (.int .u8 0) Try.underlying27 hi hz0 hz1 hz2 rfl v3 _ _ rfl ST3.out.1 A cn cb rfl HC2.out.2.2.2.1 HY.out.2.2 CON.out (by unfold maxLen; omega) (by omega) hsz3 ?_; intro v4 w4 ho4 hg4; have ST4 := Lib.hid (St2.src ST3.out hDw ho4 hg4); clear ho4 hg4; have hown4 := ST4.out.1; have hsz4 := ST4.out.2.1.size; have hln4 : (L2 ++ [128] ++ cb).length = L2.length + 1 + cb.length := (by simp; omega)) | (at_builtin; refine wpList_append_own _ rfl (.tmp 98) (.tmp 99) 27 rfl w.heap.size 5 i0 (.int .u8 0) 1 1 Try.underlying27 hi hz0 hz1 hz2 rfl (by decide) v4 ((L2 ++ [128] ++ cb).length) _ rfl (hown4.alloc _) ⟨_, 0, none⟩ 2 2 [.int .u8 0, .int .u8 0] rfl rfl (World.news_of_block (heap_alloc_new _ _)) (u8s_cells eq00) (by unfold maxLen; omega) (by omega) (by simp; omega) ?_; intro v5 w5 ho hg _; have ST5 := Lib.hid (St2.app (xs := [0, 0]) ST4.out hDw rfl eq00 ho hg)))
                have HF := Lib.hid (show LosRel w D (fun b => b < w.heap.size ∧ b ≠ D) cs f _ (j + 1) r _ _ ∧ r.od from ⟨LosRel.step (tl := [0, 0]) (hd := [128]) HX.out.2.1 HX.out.1 HC2.out.2.1 rfl ST5.out HC2.out.2.2.2.2 (by simp), HX.out.2.2.2.2.2⟩)
                clear ST5 
                go_roundw
                case rel => exact ⟨j + 1, r, _, by omega, by go_num, by omega, HF⟩
                case measure => simp [intOf]; omega
            · have hdq : True := trivial
              by_cases h256 : cb.length < 256
              · have d256 : decide ((cb.length : Int) < 256) = true := by simp; omega
                go_wp2_with (first | (at_builtin; refine wpList_append_own _ rfl (.tmp 113) (.tmp 116) 27 rfl w.heap.size 5 i0 (.int .u8 0) 1 1 Try.underlying27 hi hz0 hz1 hz2 rfl (by decide) vb (L2.length) _ rfl (hown.alloc _) ⟨_, 0, none⟩ 2 2 [.int .u8 129, .int .u8 (cb.length : Int)] rfl rfl (World.news_of_block (heap_alloc_new _ _)) (u8s_cells (h81 (n := cb.length) (by omega))) (by unfold maxLen; omega) (by omega) (by simp; omega) ?_; intro v3 w3 ho hg _; have ST3 := Lib.hid (St2.app (xs := [129, UInt8.ofNat cb.length]) HY.out.1 hDw rfl (h81 (n := cb.length) (by omega)) ho hg); have CON := Lib.hid (con_row (HY.out.2.1.imp fun q hq => ⟨hq.1, hq.2.1⟩) hg); have hsz3 := ST3.out.2.1.size; have hln3 : (L2 ++ [129, UInt8.ofNat cb.length]).length ≤ L2.length + 5 := (by simp); clear ho hg) | (at_builtin; refine append_con rfl (.tmp 126) (.tmp 127) 27 rfl w.heap.size 5 i0 (.int .u8 0) Try.underlying27 hi hz0 hz1 hz2 rfl v3 _ _ rfl ST3.out.1 A cn cb rfl HC2.out.2.2.2.1 HY.out.2.2 CON.out (by unfold maxLen; omega) (by omega) hsz3 ?_; intro v4 w4 ho4 hg4; have ST4 := Lib.hid (St2.src ST3.out hDw ho4 hg4); clear ho4 hg4))
                have HF := Lib.hid (show LosRel w D (fun b => b < w.heap.size ∧ b ≠ D) cs f _ (j + 1) r _ _ ∧ r.od from ⟨LosRel.step (tl := []) (hd := [129, UInt8.ofNat cb.length]) HX.out.2.1 HX.out.1 HC2.out.2.1 (List.append_nil _).symm ST4.out HC2.out.2.2.2.2 (by simp), HX.out.2.2.2.2.2⟩)
                clear ST4 
                go_roundw
                case rel => exact ⟨j + 1, r, _, by omega, by go_num, by omega, HF⟩
                case measure => simp [intOf]; omega
              · have d256 : decide ((cb.length : Int) < 256) = false := by simp; omega
                go_wp2_with (first | (at_builtin; refine wpList_append_own _ rfl (.tmp 118) (.tmp 124) 27 rfl w.heap.size 5 i0 (.int .u8 0) 1 1 Try.underlying27 hi hz0 hz1 hz2 rfl (by decide) vb (L2.length) _ rfl (hown.alloc _) ⟨_, 0, none⟩ 3 3 [.int .u8 130, .int .u8 ((cb.length : Int) / 256 % 256), .int .u8 ((cb.length : Int) % 256)] rfl rfl (World.news_of_block (heap_alloc_new _ _)) (u8s_cells (h82 cb.length)) (by unfold maxLen; omega) (by omega) (by simp; omega) ?_; intro v3 w3 ho hg _; have ST3 := Lib.hid (St2.app (xs := [130, UInt8.ofNat (cb.length / 256), UInt8.ofNat cb.length]) HY.out.1 hDw rfl (h82 cb.length) ho hg); have CON := Lib.hid (con_row (HY.out.2.1.imp fun q hq => ⟨hq.1, hq.2.1⟩) hg); have hsz3 := ST3.out.2.1.size; have hln3 : (L2 ++ [130, UInt8.ofNat (cb.length / 256), UInt8.ofNat cb.length]).length ≤ L2.length + 5 := (by simp); clear ho hg) | (at_builtin; refine append_con rfl (.tmp 126) (.tmp 127) 27 rfl w.heap.size 5 i0 (.int .u8 0) Try.underlying27 hi hz0 hz1 hz2 rfl v3 _ _ rfl ST3.out.1 A cn cb rfl HC2.out.2.2.2.1 HY.out.2.2 CON.out (by unfold maxLen; omega) (by omega) hsz3 ?_; intro v4 w4 ho4 hg4; have ST4 := Lib.hid (St2.src ST3.out hDw ho4 hg4); clear ho4 hg4))
                have HF := Lib.hid (show LosRel w D (fun b => b < w.heap.size ∧ b ≠ D) cs f _ (j + 1) r _ _ ∧ r.od from ⟨LosRel.step (tl := []) (hd := [130, UInt8.ofNat (cb.length / 256), UInt8.ofNat cb.length]) HX.out.2.1 HX.out.1 HC2.out.2.1 (List.append_nil _).symm ST4.out HC2.out.2.2.2.2 (by simp), HX.out.2.2.2.2.2⟩)
                clear ST4 
                go_roundw
                case rel => exact ⟨j + 1, r, _, by omega, by go_num, by omega, HF⟩
                case measure => simp [intOf]; omega
            · have hdq : True := trivial
              by_cases h128 : cb.length < 128
              · have d128 : decide ((cb.length : Int) < 128) = true := by simp; omega
                go_wp2_with (first | (at_builtin; refine wpList_append_own _ rfl (.tmp 56) (.tmp 59) 27 rfl w.heap.size 5 i0 (.int .u8 0) 1 1 Try.underlying27 hi hz0 hz1 hz2 rfl (by decide) vb (L2.length) _ rfl (hown.alloc _) ⟨_, 0, none⟩ 1 1 _ rfl rfl (World.news_of_block (heap_alloc_new _ _)) (u8s_cells (h00 (n := cb.length) (by omega))) (by unfold maxLen; omega) (by omega) (by simp; omega) ?_; intro v3 w3 ho hg _; have ST3 := Lib.hid (St2.app (xs := [UInt8.ofNat cb.length]) HY.out.1 hDw rfl (h00 (n := cb.length) (by omega)) ho hg); have CON := Lib.hid (con_row (HY.out.2.1.imp fun q hq => ⟨hq.1, hq.2.1⟩) hg); have hsz3 := ST3.out.2.1.size; have hln3 : (L2 ++ [UInt8.ofNat cb.length]).length ≤ L2.length + 5 := (by simp); clear ho hg) | (at_builtin; refine append_con rfl (.tmp 126) (.tmp 127) 27 rfl w.heap.size 5 i0 (.int .u8 0) Try.underlying27 hi hz0 hz1 hz2 rfl v3 _ _ rfl ST3.out.1 A cn cb rfl HC2.out.2.2.2.1 HY.out.2.2 CON.out (by unfold maxLen; omega) (by omega) hsz3 ?_; intro v4 w4 ho4 hg4; have ST4 := Lib.hid (St2.src ST3.out hDw ho4 hg4); clear ho4 hg4))
                have HF := Lib.hid (show LosRel w D (fun b => b < w.heap.size ∧ b ≠ D) cs f _ (j + 1) r _ _ ∧ r.od from ⟨LosRel.step (tl := []) (hd := [UInt8.ofNat cb.length]) HX.out.2.1 HX.out.1 HC2.out.2.1 (List.append_nil _).symm ST4.out HC2.out.2.2.2.2 (by simp), HX.out.2.2.2.2.2⟩)
                clear ST4 
                go_roundw
                case rel => exact ⟨j + 1, r, _, by omega, by go_num, by omega, HF⟩
                case measure => simp [intOf]; omega
              · have d128 : decide ((cb.length : Int) < 128) = false := by simp; omega
                go_wp2_with (first | (at_builtin; refine wpList_append_own _ rfl (.tmp 61) (.tmp 67) 27 rfl w.heap.size 5 i0 (.int .u8 0) 1 1 Try.underlying27 hi hz0 hz1 hz2 rfl (by decide) vb (L2.length) _ rfl (hown.alloc _) ⟨_, 0, none⟩ 3 3 [.int .u8 130, .int .u8 ((cb.length : Int) / 256 % 256), .int .u8 ((cb.length : Int) % 256)] rfl rfl (World.news_of_block (heap_alloc_new _ _)) (u8s_cells (h82 cb.length)) (by unfold maxLen; omega) (by omega) (by simp; omega) ?_; intro v3 w3 ho hg _; have ST3 := Lib.hid (St2.app (xs := [130, UInt8.ofNat (cb.length / 256), UInt8.ofNat cb.length]) HY.out.1 hDw rfl (h82 cb.length) ho hg); have CON := Lib.hid (con_row (HY.out.2.1.imp fun q hq => ⟨hq.1, hq.2.1⟩) hg); have hsz3 := ST3.out.2.1.size; have hln3 : (L2 ++ [130, UInt8.ofNat (cb.length / 256), UInt8.ofNat cb.length]).length ≤ L2.length + 5 := (by simp); clear ho hg) | (at_builtin; refine append_con rfl (.tmp 126) (.tmp 127) 27 rfl w.heap.size 5 i0 (.int .u8 0) Try.underlying27 hi hz0 hz1 hz2 rfl v3 _ _ rfl ST3.out.1 A cn cb rfl HC2.out.2.2.2.1 HY.out.2.2 CON.out (by unfold maxLen; omega) (by omega) hsz3 ?_; intro v4 w4 ho4 hg4; have ST4 := Lib.hid (St2.src ST3.out hDw ho4 hg4); clear ho4 hg4))
                have HF := Lib.hid (show LosRel w D (fun b => b < w.heap.size ∧ b ≠ D) cs f _ (j + 1) r _ _ ∧ r.od from ⟨LosRel.step (tl := []) (hd := [130, UInt8.ofNat (cb.length / 256), UInt8.ofNat cb.length]) HX.out.2.1 HX.out.1 HC2.out.2.1 (List.append_nil _).symm ST4.out HC2.out.2.2.2.2 (by simp), HX.out.2.2.2.2.2⟩)
                clear ST4 
                go_roundw
                case rel => exact ⟨j + 1, r, _, by omega, by go_num, by omega, HF⟩
                case measure => simp [intOf]; omega

theorem F.gd_inv {m : Nat} {g : F} : ∀ {f : F}, (f.app g).gd m → f.gd m ∧ g.gd m
  | .nil, h => ⟨trivial, h⟩
  | .cons t v k r, ⟨h1, h2, h3, h4, h5, h6, h7, h8⟩ => by
    obtain ⟨a, b⟩ := F.gd_inv h8
    exact ⟨⟨h1, h2, h3, h4, h5, h6, h7, a⟩, b⟩
/-- most objects at m levels -/
def gdB : Nat → Nat
  | 0 => 0
  | m + 1 => 1 + 3 * gdB m
theorem F.gd_size2 : ∀ {f : F} {m : Nat}, f.gd m → f.size ≤ f.len * gdB m
  | .nil, _, _ => by simp [F.size]
  | .cons t v k r, m, ⟨h1, h2, h3, h4, h5, h6, h7, h8⟩ => by
    have s1 := F.gd_size2 h7
    have s2 := F.gd_size2 h8
    obtain ⟨m', rfl⟩ : ∃ m', m = m' + 1 := ⟨m - 1, by omega⟩
    simp only [Nat.add_sub_cancel] at s1
    have s3 : k.len * gdB m' ≤ 3 * gdB m' := Nat.mul_le_mul_right _ h6
    simp only [F.size, F.len, gdB] at s2 ⊢
    rw [Nat.add_mul, Nat.one_mul]
    omega
theorem F.gd_five {f : F} (h : f.gd 5) (hl : f.len ≤ 3) : f.size ≤ 363 := by
  have h1 := F.gd_size2 h
  have h2 : f.len * gdB 5 ≤ 3 * gdB 5 := Nat.mul_le_mul_right _ hl
  have h3 : gdB 5 = 121 := rfl
  omega

theorem holds_split {w : World} {p : Nat → Prop} : ∀ {f : F} {cs : List Value} (k : Nat), HoldsP w p f cs → k < f.len →
    ∃ f1 t v kk f2 cs1 Av cv Ak ck cs2, f = f1.app (.cons t v kk f2) ∧ f1.len = k ∧ cs = cs1 ++ (.int .i64 t :: .slice Av v.length cv :: .slice Ak kk.len ck :: cs2) ∧ cs1.length = k * 3 ∧ HoldsP w p f1 cs1 ∧ (Av = none → cv = 0) ∧ SeesP w p Av (Us v) ∧ SeesF w p Ak kk ∧ HoldsP w p f2 cs2
  | .nil, _, _, _, h => by simp [F.len] at h
  | .cons t v kk r, _, 0, ⟨Av, cv, Ak, ck, ks, cs', e, h0, h1, h2, h3, h4⟩, _ => ⟨.nil, t, v, kk, r, [], Av, cv, Ak, ck, cs', rfl, rfl, e, rfl, rfl, h0, h1, ⟨ks, h2, h3⟩, h4⟩
  | .cons t v kk r, _, k + 1, ⟨Av, cv, Ak, ck, ks, cs', e, h0, h1, h2, h3, h4⟩, h => by
    obtain ⟨f1, t', v', kk', f2, cs1, Av', cv', Ak', ck', cs2, e1, e2, e3, e3', e4, e5, e6, e7, e8⟩ := holds_split k h4 (by simp only [F.len] at h; omega)
    exact ⟨.cons t v kk f1, t', v', kk', f2, .int .i64 t :: .slice Av v.length cv :: .slice Ak kk.len ck :: cs1, Av', cv', Ak', ck', cs2, by rw [e1]; rfl, by simp [F.len, e2], by rw [e, e3]; rfl, by simp only [List.length_cons, e3']; omega, ⟨Av, cv, Ak, ck, ks, cs1, rfl, h0, h1, h2, h3, e4⟩, e5, e6, e7, e8⟩
theorem HoldsP.one {w : World} {p : Nat → Prop} : ∀ {f : F} {cs : List Value}, HoldsP w p f cs → ∀ u ∈ cs, u.oneCell' = true
  | .nil, _, h, u, hu => by cases h; cases hu
  | .cons t v k r, _, ⟨Av, cv, Ak, ck, ks, cs', e, h0, h1, h2, h3, h4⟩, u, hu => by
    subst e
    rcases List.mem_cons.1 hu with rfl | hu
    · rfl
    rcases List.mem_cons.1 hu with rfl | hu
    · rfl
    rcases List.mem_cons.1 hu with rfl | hu
    · rfl
    exact HoldsP.one h4 u hu

/-- what Odd answers -/
def OddIs (w : World) (D : Nat) (p : Nat → Prop) (f : F) (e : Ending) (w' : World) : Prop := ∃ (f' : F) (A : Option Addr) (c : Nat), e = .returned (.slice A f'.len c) ∧ f'.od ∧ f'.size ≤ f.size + 1 ∧ SeesF w' (fun b => p b ∨ newB w w' b) A f' ∧ w.grownBy w' (some D) ∧ DiceOk w' D

theorem row3 {w : World} {base g n cap : Nat} {cs : List Value} (h : w.ownsRow base 32 3 (.slice (some ⟨g, 0, none⟩) n cap) n cs) :
    ∃ cur, w.heap[g]? = some (.cells cur 32 (0, 0)) ∧ cur.size = cap * 3 ∧ n ≤ cap ∧ cap ≤ maxLen ∧ cur.toList.take (n * 3) = cs ∧ base ≤ g := by
  rcases h.2 with ⟨e, _⟩ | ⟨g', cap', cur, e, hb, hh, h1, h2, h3, h4⟩
  · cases e
  · cases e
    exact ⟨cur, hh, h3, h1, h2, h4, hb⟩
theorem row3_frozen {w : World} {base g n cap : Nat} {cs : List Value} (h : w.ownsRow base 32 3 (.slice (some ⟨g, 0, none⟩) n cap) n cs) (j : Nat) : w.frozen? ⟨g, j, none⟩ = false := by
  obtain ⟨cur, hh, _⟩ := row3 h
  exact frozen_of_row w g j _ _ hh
theorem own_slice3 {w : World} {base n : Nat} {e : TypeId} {v : Value} {xs : List Value} (h : w.ownsRow base e 3 v n xs) : ∃ A c, v = .slice A n c := by
  rcases h.2 with ⟨rfl, rfl⟩ | ⟨g, cap, cur, rfl, _⟩
  · exact ⟨none, 0, rfl⟩
  · exact ⟨_, cap, rfl⟩
/-- the three cells of the object at k -/
theorem row3_at {w : World} {base g n cap k : Nat} {cs cs1 cs2 : List Value} {a b c : Value} (h : w.ownsRow base 32 3 (.slice (some ⟨g, 0, none⟩) n cap) n cs) (he : cs = cs1 ++ (a :: b :: c :: cs2)) (hl : cs1.length = k * 3) :
    w.cell? ⟨g, k * 3, none⟩ = some a ∧ w.cell? ⟨g, k * 3 + 1, none⟩ = some b ∧ w.cell? ⟨g, k * 3 + 2, none⟩ = some c := by
  have hlen := h.1
  have hl2 : cs.length = k * 3 + 3 + cs2.length := by rw [he]; simp only [List.length_append, List.length_cons]; omega
  refine ⟨?_, ?_, ?_⟩
  · rw [h.cellAt (k * 3) (by omega), he, ← hl]; simp
  · rw [h.cellAt (k * 3 + 1) (by omega), he, ← hl]; simp
  · rw [h.cellAt (k * 3 + 2) (by omega), he, ← hl]; simp

theorem odd_close {w w5 : World} {D g n cap k i : Nat} {p : Nat → Prop} {f f1 f2 kk kk' : F} {t t' : Int} {v v' : List UInt8} {cs cs1 cs2 : List Value} {Av' Ak' : Option Addr} {cv' ck' : Nat} {u : Value}
    (hp : ∀ b, p b → b < w.heap.size ∧ b ≠ D) (hf : f = f1.app (.cons t v kk f2)) (hn : f.len = n) (hl : f1.len = k) (hDw : D < w.heap.size) (hgw : w.heap.size ≤ g)
    (hrow : w5.ownsRow w.heap.size 32 3 (.slice (some ⟨g, 0, none⟩) n cap) n cs)
    (h1 : HoldsP w p f1 cs1) (h2 : HoldsP w p f2 cs2) (hg : w.grownBy w5 (some D)) (hd : DiceOk w5 D)
    (hset : cs.set (k * 3 + i) u = cs1 ++ (.int .i64 t' :: .slice Av' v'.length cv' :: .slice Ak' kk'.len ck' :: cs2))
    (hn0 : Av' = none → cv' = 0) (hv : SeesP w5 (fun b => p b ∨ (w.heap.size ≤ b ∧ b < w5.heap.size ∧ b ≠ g)) Av' (Us v')) (hk : SeesF w5 (fun b => p b ∨ (w.heap.size ≤ b ∧ b < w5.heap.size ∧ b ≠ g)) Ak' kk')
    (ho1 : f1.od) (ho2 : f2.od) (ht : -9223372036854775808 ≤ t' ∧ t' ≤ 9223372036854775807) (hvl : v'.length ≤ 310) (hko : kk'.od) (hks : kk'.size ≤ kk.size + 1) :
    OddIs w D p f (.returned (.slice (some ⟨g, 0, none⟩) n cap)) (w5.setCell ⟨g, k * 3 + i, none⟩ u) := by
  obtain ⟨cur, hh, hs, hnc, hmx, htk, _⟩ := row3 hrow
  have hgs : w5.grownBy (w5.setCell ⟨g, k * 3 + i, none⟩ u) (some g) := grown_set _ _
  have h5 : w.grownBy (w5.setCell ⟨g, k * 3 + i, none⟩ u) (some D) := grown_row hg hgs (fun g' e => by injection e with e; omega)
  have hsz := h5.size
  have hsz5 := hg.size
  have hblk := block_set (i := k * 3 + i) hh u
  have hlf : (f1.app (.cons t' v' kk' f2)).len = n := by rw [← hn, hf, F.len_app, F.len_app]; rfl
  refine ⟨f1.app (.cons t' v' kk' f2), some ⟨g, 0, none⟩, cap, by rw [hlf], F.od_app ho1 ⟨ht, hvl, hko, ho2⟩, ?_, ?_, h5, hd.grown hgs (fun g' e => by injection e with e; omega)⟩
  · rw [hf, F.size_app, F.size_app]; simp only [F.size]; omega
  · have hfar : ∀ q : Addr, (p q.block ∨ (w.heap.size ≤ q.block ∧ q.block < w5.heap.size ∧ q.block ≠ g)) → (w5.setCell ⟨g, k * 3 + i, none⟩ u).cell? q = w5.cell? q := fun q hq => by
      rcases hq with hq | hq
      · have := hp _ hq; exact grown_cell hgs (by omega) (by omega)
      · exact grown_cell hgs hq.2.1 hq.2.2
    have hpw : ∀ b, (p b ∨ (w.heap.size ≤ b ∧ b < w5.heap.size ∧ b ≠ g)) → (p b ∨ newB w (w5.setCell ⟨g, k * 3 + i, none⟩ u) b) := fun b hb => by
      rcases hb with hb | hb
      · exact .inl hb
      · exact .inr ⟨hb.1, Nat.lt_of_lt_of_le hb.2.1 hgs.size⟩
    have hp0 : ∀ q : Addr, p q.block → (w5.setCell ⟨g, k * 3 + i, none⟩ u).cell? q = w.cell? q := fun q hq => grown_cell h5 (hp _ hq).1 (hp _ hq).2
    obtain ⟨ks, k1, k2⟩ := hk.keep hfar
    refine ⟨_, .inr ⟨g, 0, rfl, .inr ⟨hgw, lt_of_block hblk⟩, fun j hj => ?_⟩,
      HoldsP.app (HoldsP.imp (fun b hb => .inl hb) (HoldsP.keep hp0 h1)) ⟨Av', cv', Ak', ck', ks, cs2, rfl, hn0, (hv.keep hfar).imp hpw, k1.imp hpw, HoldsP.imp hpw k2, HoldsP.imp (fun b hb => .inl hb) (HoldsP.keep hp0 h2)⟩⟩
    rw [← hset] at hj ⊢
    rw [Nat.zero_add, cell_of_row _ g j _ _ _ hblk, ← htk, Array.getElem?_setIfInBounds, List.getElem?_set, List.getElem?_take, List.length_take, Array.length_toList]
    rw [List.length_set, ← htk, List.length_take, Array.length_toList] at hj
    by_cases hj2 : k * 3 + i = j
    · rw [if_pos hj2, if_pos hj2, if_pos (by omega), if_pos (by omega)]
    · rw [if_neg hj2, if_neg hj2, if_pos (by omega), Array.getElem?_toList]

theorem append_nil_any {P : Program} {w : World} {ops : Array Oper} {rest : List Oper} {o : Oper} {a : Act} {Q : Exit → Act → World → Prop} (hgd : o.guard = none) (s x : Operand) (t : TypeId)
    (ho : o.op = .call { callee := .builtin .append, args := #[s, x], argTypes := #[t, t] })
    (base : Nat) (e : TypeId) (i : TypeInfo) (z : Value) (size bytes : Nat) (ht : P.underlying t = some (.slice e)) (hi : P.info? e = some i) (hz : i.zero = some z)
    (hsize : i.size = size) (hby : i.bytes = bytes) (hzs : z.cells.size = size) (hsz : 0 < size)
    (hs : a.eval s = .slice none 0 0) (A : Option Addr) (n c : Nat) (cs : List Value) (p : Nat → Prop) (hx : a.eval x = .slice A n c) (hp : SeesP w p A cs) (hlen : cs.length = n * size) (h1 : ∀ u ∈ cs, u.oneCell' = true)
    (h63 : n ≤ maxLen) (hbytes : n * bytes ≤ 140737488355328) (hbase : base ≤ w.heap.size)
    (h : ∀ v' w', w'.ownsRow base e size v' n cs → w.grownBy w' none → wpList P ops Q rest (a.put o.dst v') w') : wpList P ops Q (o :: rest) a w := by
  by_cases h0 : n = 0
  · subst h0
    have : cs = [] := List.eq_nil_of_length_eq_zero (by omega)
    subst this
    refine wpList_plain hgd fun K hK => ?_
    have hrun : (Builtin.append_ #[t, t] o.type #[.slice none 0 0, .slice A 0 c]).run P w = .ok (.slice none 0 0) w := by
      cases A with
      | none => simp [Builtin.append_, run_underlying ht, sizeOf, typeInfo, hi, Builtin.lenOf, Builtin.firstCells]
      | some ad => simp [Builtin.append_, run_underlying ht, sizeOf, typeInfo, hi, Builtin.lenOf, Builtin.firstCells, loadCells, loadCellsFrom]
    unfold Oper.wp
    simp [execOp, ho, resolve, invoke, builtin, hs, hx, hrun, Result.andThen]
    exact hK _ _ (h _ _ ⟨by simp, .inl ⟨rfl, rfl⟩⟩ (World.grownBy.refl _ _))
  · have hA : ∃ ad, A = some ad := by
      rcases hp with hp | ⟨b, off, e, _⟩
      · subst hp
        have := Nat.mul_pos (Nat.pos_of_ne_zero h0) hsz
        simp at hlen
        omega
      · exact ⟨_, e⟩
    obtain ⟨ad, rfl⟩ := hA
    exact wpList_append_own w hgd s x t ho base e i z size bytes ht hi hz hsize hby hzs hsz (.slice none 0 0) 0 [] hs (World.ownsRow_nil _ _ _ _) ad n c cs hx hlen (hp.src ad rfl) h1 (by omega) (by simpa using hbytes) hbase fun v' w' h1 h2 _ => h v' w' (by simpa using h1) h2

def OddAll (n : Nat) : Prop := ∀ (f : F) (m : Nat) (A : Option Addr) (c D : Nat) (w : World) (p : Nat → Prop), f.size < n → f.gd m → (∀ b, p b → b < w.heap.size ∧ b ≠ D) → SeesF w p A f → DiceOk w D →
  Calls Try.prog 32 #[.pointer (some ⟨D, 0, none⟩), .slice A f.len c] w (OddIs w D p f)

theorem odd_tag {r : Nat} (h : r < 9) : ∃ z : Int, (-9223372036854775808 ≤ z ∧ z ≤ 9223372036854775807) ∧ (#[Value.int .i64 0, .int .i64 31, .int .i64 63, .int .i64 24320, .int .i64 24448, .int .i64 256, .int .i64 (-1), .int .i64 32590, .int .i64 65536])[r]? = some (.int .i64 z) := by
  have : r = 0 ∨ r = 1 ∨ r = 2 ∨ r = 3 ∨ r = 4 ∨ r = 5 ∨ r = 6 ∨ r = 7 ∨ r = 8 := by omega
  rcases this with rfl | rfl | rfl | rfl | rfl | rfl | rfl | rfl | rfl <;> exact ⟨_, by constructor <;> decide, rfl⟩

/-- a Value of the call's own, one byte longer -/
theorem odd_val {w w3 w4 w5 : World} {D g n cap g5 cap5 : Nat} {cs : List Value} {v : List UInt8} {v4 : Value} {o : Obj} {news : List Value} (hDw : D < w.heap.size) (hgs : g < w3.heap.size) (hob : (Value.slice (some (⟨g, 0, none⟩ : Addr)) n cap).ownBlock ≠ some D)
    (h3 : w.grownBy w3 (some D) ∧ DiceOk w3 D ∧ w3.ownsRow w.heap.size 32 3 (.slice (some ⟨g, 0, none⟩) n cap) n cs)
    (ho4 : w4.ownsRow w3.heap.size 5 1 v4 v.length (Us v)) (hg4 : w3.grownBy w4 none)
    (ho5 : w5.ownsRow w3.heap.size 5 1 (.slice (some ⟨g5, 0, none⟩) (v.length + 1) cap5) (v.length + 1) (Us v ++ news)) (hg5 : (w4.alloc o).grownBy w5 v4.ownBlock) (he : news = Us [7]) :
    w.grownBy w5 (some D) ∧ DiceOk w5 D ∧ w5.ownsRow w.heap.size 32 3 (.slice (some ⟨g, 0, none⟩) n cap) n cs ∧ SeesP w5 (fun b => w3.heap.size ≤ b ∧ b < w5.heap.size ∧ b ≠ g) (some ⟨g5, 0, none⟩) (Us (v ++ [7])) := by
  have hD3 := h3.2.1.lt
  have hlt := ho5.lt g5 rfl
  refine ⟨grown_row (grown_trans (grown_row h3.1 hg4 (fun g e => by cases e)) (grown_alloc w4 o (some D))) hg5 (fun g' e => Nat.le_trans h3.1.size (ho4.lt g' e).1),
    ((h3.2.1.grown hg4 (fun g e => by cases e)).below ((Below.refl _ _).alloc (Nat.le_refl _) o)).grown hg5 (fun g' e => by have := (ho4.lt g' e).1; omega),
    ((h3.2.2.kept hg4 (.inr (by intro e; cases e))).alloc o).kept hg5 (.inr ?_), .inr ⟨g5, 0, rfl, ⟨hlt.1, hlt.2, by have := hlt.1; omega⟩, fun j hj => ?_⟩⟩
  · intro e
    have e2 : v4.ownBlock = some g := e.symm
    have := (ho4.lt g e2).1
    omega
  · rw [Us_length, List.length_append] at hj
    have h1 : [(7 : UInt8)].length = 1 := rfl
    rw [Nat.zero_add, ho5.cellAt j (by omega), he, ← Us_append]
/-- Kids of the call's own, one object more -/
theorem odd_kid {w w3 w4 w5 : World} {D g n cap g5 cap5 : Nat} {p : Nat → Prop} {cs ks : List Value} {kk : F} {v4 : Value} {o : Obj} (hDw : D < w.heap.size) (hgs : g < w3.heap.size) (hob : (Value.slice (some (⟨g, 0, none⟩ : Addr)) n cap).ownBlock ≠ some D) (hp : ∀ b, p b → b < w.heap.size ∧ b ≠ D)
    (h3 : w.grownBy w3 (some D) ∧ DiceOk w3 D ∧ w3.ownsRow w.heap.size 32 3 (.slice (some ⟨g, 0, none⟩) n cap) n cs) (hk : HoldsP w3 p kk ks)
    (ho4 : w4.ownsRow w3.heap.size 32 3 v4 kk.len ks) (hg4 : w3.grownBy w4 none)
    (ho5 : w5.ownsRow w3.heap.size 32 3 (.slice (some ⟨g5, 0, none⟩) (kk.len + 1) cap5) (kk.len + 1) (ks ++ [.int .i64 4, .slice none 0 0, .slice none 0 0])) (hg5 : (w4.alloc o).grownBy w5 v4.ownBlock) :
    w.grownBy w5 (some D) ∧ DiceOk w5 D ∧ w5.ownsRow w.heap.size 32 3 (.slice (some ⟨g, 0, none⟩) n cap) n cs ∧ SeesF w5 (fun b => p b ∨ (w3.heap.size ≤ b ∧ b < w5.heap.size ∧ b ≠ g)) (some ⟨g5, 0, none⟩) (kk.app (.cons 4 [] .nil .nil)) := by
  have hD3 := h3.2.1.lt
  have hlt := ho5.lt g5 rfl
  have hG : w.grownBy w5 (some D) := grown_row (grown_trans (grown_row h3.1 hg4 (fun g e => by cases e)) (grown_alloc w4 o (some D))) hg5 (fun g' e => Nat.le_trans h3.1.size (ho4.lt g' e).1)
  refine ⟨hG, ((h3.2.1.grown hg4 (fun g e => by cases e)).below ((Below.refl _ _).alloc (Nat.le_refl _) o)).grown hg5 (fun g' e => by have := (ho4.lt g' e).1; omega),
    ((h3.2.2.kept hg4 (.inr (by intro e; cases e))).alloc o).kept hg5 (.inr ?_), _, .inr ⟨g5, 0, rfl, .inr ⟨hlt.1, hlt.2, by have := hlt.1; omega⟩, fun j hj => ?_⟩,
    HoldsP.app (HoldsP.imp (fun b hb => .inl hb) (HoldsP.keep (fun q hq => ?_) hk)) ⟨none, 0, none, 0, [], [], rfl, fun _ => rfl, .inl rfl, .inl rfl, rfl, rfl⟩⟩
  · intro e
    have e2 : v4.ownBlock = some g := e.symm
    have := (ho4.lt g e2).1
    omega
  · have hl := ho5.1
    exact (congrArg (fun x => w5.cell? ⟨g5, x, none⟩) (Nat.zero_add j)).trans (ho5.cellAt j (by rw [← hl]; exact hj))
  · have h := hp _ hq
    exact (grown_cell hG h.1 h.2).trans (grown_cell h3.1 h.1 h.2).symm

set_option maxRecDepth 20000 in
set_option maxHeartbeats 4000000 in
theorem dice_odd (n : Nat) (hn : n ≤ 5000) : OddAll n := by
  induction n with
  | zero => intro f m A c D w p h; omega
  | succ n ih =>
    intro f m A c D w p hsz hgd hp hs hdo
    obtain ⟨i0, hi, hz0, hz1, hz2⟩ := info_parts info_node
    obtain ⟨i1, hi1, hy0, hy1, hy2⟩ := info_parts info_u8b
    obtain ⟨cs, s1, k1⟩ := hs
    have hDw := hdo.lt
    have hlen := f.len_le_size
    have hcl : cs.length = f.len * 3 := by rw [HoldsP.length k1]; omega
    have IH := Lib.hid (ih (by omega))
    have HS := Lib.hid (show SeesP w p A cs from s1)
    have HK := Lib.hid (show HoldsP w p f cs ∧ (∀ u ∈ cs, u.oneCell' = true) ∧ cs.length = f.len * 3 from ⟨k1, HoldsP.one k1, hcl⟩)
    have HD := Lib.hid hdo
    have HGD := Lib.hid hgd
    have HP := Lib.hid hp
    clear ih s1 k1 hdo hgd hcl hp
    by_cases h0 : f.len = 0
    · have d0 : ((f.len : Int) == 0) = true := by rw [h0]; rfl
      go_enter Try.func32, Try.ntmps32
      go_upto_if 11 with (at_builtin; refine append_nil_any rfl (.const (.slice none 0 0)) (.tmp 7) 24 rfl w.heap.size 32 i0 _ 3 56 Try.underlying24 hi hz0 hz1 hz2 rfl (by decide) rfl A f.len c cs p rfl HS.out HK.out.2.2 HK.out.2.1 (by unfold maxLen; omega) (by omega) (Nat.le_refl _) ?_; intro v1 w1 ho1 hg1; have G1 := Lib.hid (show w.grownBy w1 (some D) ∧ DiceOk w1 D from ⟨grown_row (World.grownBy.refl _ _) hg1 (fun g e => by cases e), HD.out.grown hg1 (fun g e => by cases e)⟩); obtain ⟨A1, c1, rfl⟩ := own_slice3 ho1; clear ho1 hg1)
      have HX := Lib.hid (dice_next D 70000 w1 (by decide) (by decide) G1.out.2)
      clear h0 HS HK HD HGD IH
      go_wp2_with fail
      refine HX.out.mono ?_
      rintro e w2 ⟨x, hx, rfl, hg2, hd2⟩
      have HF := Lib.hid (show OddIs w D p f (.returned (.slice (some ⟨w2.heap.size, 0, none⟩) 1 1)) (w2.alloc (.cells #[.int .i64 ((x : Int) - 100), .slice none 0 0, .slice none 0 0] 32)) from
        ⟨.cons ((x : Int) - 100) [] .nil .nil, _, 1, rfl, ⟨by omega, by simp, trivial, trivial⟩, by simp only [F.size]; omega, by
          refine ⟨[.int .i64 ((x : Int) - 100), .slice none 0 0, .slice none 0 0], .inr ⟨_, 0, rfl, .inr ⟨by have := G1.out.1.size; have := hg2.size; omega, by simp⟩, fun j hj => ?_⟩, none, 0, none, 0, [], [], rfl, fun _ => rfl, .inl rfl, .inl rfl, rfl, rfl⟩
          rw [Nat.zero_add, cell_of_row _ w2.heap.size j _ _ (0, 0) (heap_alloc_new w2 _)]
          simp,
        grown_trans (grown_trans G1.out.1 hg2) (grown_alloc _ _ _), hd2.below ((Below.refl _ _).alloc (Nat.le_refl _) _)⟩)
      clear hg2 hd2 HX G1
      go_wp2_with fail
      go_ret
      exact HF.out
    · have d0 : ((f.len : Int) == 0) = false := beq_eq_false_iff_ne.mpr (by omega)
      go_enter Try.func32, Try.ntmps32
      go_upto_if 11 with (at_builtin; refine append_nil_any rfl (.const (.slice none 0 0)) (.tmp 7) 24 rfl w.heap.size 32 i0 _ 3 56 Try.underlying24 hi hz0 hz1 hz2 rfl (by decide) rfl A f.len c cs p rfl HS.out HK.out.2.2 HK.out.2.1 (by unfold maxLen; omega) (by omega) (Nat.le_refl _) ?_; intro v1 w1 ho1 hg1; have hfm := ho1.form (by omega); obtain ⟨g, cap, rfl, hgw, hglt⟩ := hfm; have G1 := Lib.hid (show w.grownBy w1 (some D) ∧ DiceOk w1 D ∧ w1.ownsRow w.heap.size 32 3 (.slice (some ⟨g, 0, none⟩) f.len cap) f.len cs from ⟨grown_row (World.grownBy.refl _ _) hg1 (fun g e => by cases e), HD.out.grown hg1 (fun g e => by cases e), ho1⟩); clear ho1 hg1)
      have hgD : g ≠ D := by omega
      have hob : (Value.slice (some (⟨g, 0, none⟩ : Addr)) f.len cap).ownBlock ≠ some D := by intro e; have e : some g = some D := e; injection e with e; exact hgD e
      have HX := Lib.hid (dice_next D f.len w1 (by omega) (by omega) G1.out.2.1)
      clear HS HD
      go_wp2_with fail
      refine HX.out.mono ?_
      rintro e w2 ⟨k, hk, rfl, hg2, hd2⟩
      have G2 := Lib.hid (show w.grownBy w2 (some D) ∧ DiceOk w2 D ∧ w2.ownsRow w.heap.size 32 3 (.slice (some ⟨g, 0, none⟩) f.len cap) f.len cs from ⟨grown_trans G1.out.1 hg2, hd2, own_far G1.out.2.2 hg2 hob⟩)
      have HX := Lib.hid (dice_next D 5 w2 (by decide) (by decide) hd2)
      clear hg2 hd2 G1
      go_wp2_with fail
      refine HX.out.mono ?_
      rintro e w3 ⟨q, hq, rfl, hg3, hd3⟩
      have G3 := Lib.hid (show w.grownBy w3 (some D) ∧ DiceOk w3 D ∧ w3.ownsRow w.heap.size 32 3 (.slice (some ⟨g, 0, none⟩) f.len cap) f.len cs from ⟨grown_trans G2.out.1 hg3, hd3, own_far G2.out.2.2 hg3 hob⟩)
      clear hg3 hd3 G2 HX
      have hgs3 : g < w3.heap.size := by obtain ⟨cur, hh, _⟩ := row3 G3.out.2.2; exact lt_of_block hh
      have hw3 := G3.out.1.size
      obtain ⟨f1, t, v, kk, f2, cs1, Av, cv, Ak, ck, cs2, hf, hl1, hcs, hcs1, p1, hn0, sv, sk, p2⟩ := holds_split k HK.out.1 hk
      have HGs := HGD.out
      rw [hf] at HGs
      obtain ⟨gf1, ⟨u1, u2, u3, u4, u5, u6, u7, u8⟩⟩ := F.gd_inv HGs
      have hks : kk.size + f2.size + 1 ≤ f.size := by rw [hf, F.size_app]; simp only [F.size]; omega
      have hvr := valid_range u2
      have HV := Lib.hid (show f = f1.app (.cons t v kk f2) ∧ f1.len = k ∧ HoldsP w p f1 cs1 ∧ HoldsP w p f2 cs2 ∧ f1.od ∧ f2.od ∧ (-9223372036854775808 ≤ t ∧ t ≤ 9223372036854775807) ∧ kk.od from ⟨hf, hl1, p1, p2, F.gd_od gf1, F.gd_od u8, by omega, F.gd_od u7⟩)
      have HC := Lib.hid (show cs = cs1 ++ (.int .i64 t :: .slice Av v.length cv :: .slice Ak kk.len ck :: cs2) ∧ cs1.length = k * 3 from ⟨hcs, hcs1⟩)
      have HU := Lib.hid (show (Av = none → cv = 0) ∧ SeesP w p Av (Us v) ∧ SeesF w p Ak kk ∧ kk.gd (m - 1) from ⟨hn0, sv, sk, u7⟩)
      have hset0 : ∀ u : Value, cs.set (k * 3 + 0) u = cs1 ++ (u :: .slice Av v.length cv :: .slice Ak kk.len ck :: cs2) := fun u => by rw [hcs, ← hcs1]; simp
      have hset1 : ∀ u : Value, cs.set (k * 3 + 1) u = cs1 ++ (.int .i64 t :: u :: .slice Ak kk.len ck :: cs2) := fun u => by rw [hcs, ← hcs1]; simp
      have hset2 : ∀ u : Value, cs.set (k * 3 + 2) u = cs1 ++ (.int .i64 t :: .slice Av v.length cv :: u :: cs2) := fun u => by rw [hcs, ← hcs1]; simp
      have HSE := Lib.hid (And.intro hset0 (And.intro hset1 hset2))
      clear hf hl1 hcs hcs1 p1 hn0 sv sk p2 HGs gf1 u1 u2 u3 u4 u6 u7 u8 hvr hset0 hset1 hset2 HGD HK
      have HN := Lib.hid (show (Av = none → v = []) ∧ (∀ u, w.grownBy u (some D) → SeesP u p Av (Us v)) ∧ (∀ u, w.grownBy u (some D) → SeesF u p Ak kk) from ⟨fun e => by have h := HU.out.2.1; rw [e] at h; have := congrArg List.length h.none_nil; rw [Us_length] at this; exact List.eq_nil_of_length_eq_zero this,
        fun u hu => HU.out.2.1.keep fun q hq => grown_cell hu (HP.out _ hq).1 (HP.out _ hq).2, fun u hu => SeesF.keep HU.out.2.2.1 fun q hq => grown_cell hu (HP.out _ hq).1 (HP.out _ hq).2⟩)
      have hqs : q = 0 ∨ q = 1 ∨ q = 2 ∨ q = 3 ∨ q = 4 := by omega
      rcases hqs with rfl | rfl | rfl | rfl | rfl
      · have HX := Lib.hid (fun u (h : DiceOk u D) => dice_next D 9 u (by decide) (by decide) h)
        go_wp2_with fail
        refine (HX.out _ (G3.out.2.1.below ((Below.refl _ _).alloc (Nat.le_refl _) _))).mono ?_
        rintro e w4 ⟨r, hr, rfl, hg4, hd4⟩
        obtain ⟨z, hz, hzr⟩ := odd_tag hr
        have G4 := Lib.hid (show w.grownBy w4 (some D) ∧ DiceOk w4 D ∧ w4.ownsRow w.heap.size 32 3 (.slice (some ⟨g, 0, none⟩) f.len cap) f.len cs from ⟨grown_trans (grown_trans G3.out.1 (grown_alloc _ _ _)) hg4, hd4, own_far (G3.out.2.2.alloc _) hg4 hob⟩)
        have c4 : w4.cell? ⟨w3.heap.size, r, none⟩ = some (.int .i64 z) := (grown_cell hg4 (by simp) (by simp; omega)).trans ((cell_of_row _ w3.heap.size r _ _ (0, 0) (heap_alloc_new w3 _)).trans hzr)
        have t4 := (row3_at G4.out.2.2 HC.out.1 HC.out.2).1
        have z4 := row3_frozen G4.out.2.2 (k * 3)
        have HF := Lib.hid (odd_close (i := 0) HP.out HV.out.1 rfl HV.out.2.1 hDw hgw G4.out.2.2 HV.out.2.2.1 HV.out.2.2.2.1 G4.out.1 G4.out.2.1 (HSE.out.1 (.int .i64 z)) HU.out.1 ((HN.out.2.1 _ G4.out.1).imp fun b hb => .inl hb) ((HN.out.2.2 _ G4.out.1).imp fun b hb => .inl hb) HV.out.2.2.2.2.1 HV.out.2.2.2.2.2.1 hz (by omega) HV.out.2.2.2.2.2.2.2 (by omega))
        rw [Nat.add_zero] at HF
        clear hg4 hd4 hzr HX G4 G3 HN HU HC HSE HV
        go_wp2_with fail
        go_ret
        exact HF.out
      · have t3 := (row3_at G3.out.2.2 HC.out.1 HC.out.2).2.1
        go_wp2_with (first | (at_builtin; refine append_con rfl (.const (.slice none 0 0)) (.tmp 53) 27 rfl w3.heap.size 5 i1 (.int .u8 0) Try.underlying27 hi1 hy0 hy1 hy2 rfl (.slice none 0 0) 0 [] rfl (World.ownsRow_nil _ _ _ _) Av cv v rfl HU.out.1 HN.out.1 (HN.out.2.1 _ G3.out.1).src (by unfold maxLen; omega) (by omega) (Nat.le_refl _) ?_; intro v4 w4 ho4 hg4; rw [Nat.zero_add, List.nil_append] at ho4; have hsz4 := hg4.size) | (at_builtin; refine wpList_append_lies _ rfl (.tmp 54) (.tmp 55) 27 rfl w3.heap.size 5 i1 (.int .u8 0) 1 1 Try.underlying27 hi1 hy0 hy1 hy2 rfl (by decide) v4 v.length _ rfl (ho4.alloc _) ⟨_, 0, none⟩ 1 1 [.int .u8 7] rfl rfl (World.news_of_block (heap_alloc_new _ _)) (one_cell1 7) (by decide) (by unfold maxLen; omega) (by omega) (by simp; omega) _ rfl ?_; intro g5 cap5 w5 ho5 hg5 hl5 hlt5; have G5 := Lib.hid (odd_val hDw hgs3 hob G3.out ho4 hg4 ho5 hg5 rfl); have t5 := (row3_at G5.out.2.2.1 HC.out.1 HC.out.2).2.1; have z5 := row3_frozen G5.out.2.2.1 (k * 3 + 1); clear t3 ho4 hg4 ho5 hg5))
        have HF := Lib.hid (odd_close (i := 1) (v' := v ++ [7]) HP.out HV.out.1 rfl HV.out.2.1 hDw hgw G5.out.2.2.1 HV.out.2.2.1 HV.out.2.2.2.1 G5.out.1 G5.out.2.1 (u := .slice (some ⟨g5, 0, none⟩) (v.length + 1) cap5) (by rw [List.length_append]; exact HSE.out.2.1 _) (fun e => by cases e) (G5.out.2.2.2.imp fun b hb => .inr ⟨by have := hb.1; omega, hb.2.1, hb.2.2⟩) ((HN.out.2.2 _ G5.out.1).imp fun b hb => .inl hb) HV.out.2.2.2.2.1 HV.out.2.2.2.2.2.1 HV.out.2.2.2.2.2.2.1 (by simp; omega) HV.out.2.2.2.2.2.2.2 (by omega))
        clear G5 G3 HN HU HC HSE HV
        go_wp2_with fail
        go_ret
        exact HF.out
      · have t3 := (row3_at G3.out.2.2 HC.out.1 HC.out.2).2.2
        obtain ⟨ks, s1, k2⟩ := HN.out.2.2 _ G3.out.1
        have hkl : kk.len ≤ kk.size := kk.len_le_size
        have HKS := Lib.hid (show SeesP w3 p Ak ks ∧ HoldsP w3 p kk ks ∧ ks.length = kk.len * 3 ∧ (∀ u ∈ ks, u.oneCell' = true) from ⟨s1, k2, by rw [HoldsP.length k2]; omega, HoldsP.one k2⟩)
        clear s1 k2
        go_wp2_with (first | (at_builtin; refine append_nil_any rfl (.const (.slice none 0 0)) (.tmp 67) 24 rfl w3.heap.size 32 i0 _ 3 56 Try.underlying24 hi hz0 hz1 hz2 rfl (by decide) rfl Ak kk.len ck ks p rfl HKS.out.1 HKS.out.2.2.1 HKS.out.2.2.2 (by unfold maxLen; omega) (by omega) (Nat.le_refl _) ?_; intro v4 w4 ho4 hg4; have hsz4 := hg4.size) | (at_builtin; refine wpList_append_lies _ rfl (.tmp 68) (.tmp 70) 24 rfl w3.heap.size 32 i0 _ 3 56 Try.underlying24 hi hz0 hz1 hz2 rfl (by decide) v4 kk.len _ rfl (ho4.alloc _) ⟨_, 0, none⟩ 1 1 _ rfl rfl (World.news_of_block (heap_alloc_new _ _)) (node_cells _ _ _ _ _ _ _) (by decide) (by unfold maxLen; omega) (by omega) (by simp; omega) _ rfl ?_; intro g5 cap5 w5 ho5 hg5 hl5 hlt5; have G5 := Lib.hid (odd_kid hDw hgs3 hob HP.out G3.out HKS.out.2.1 ho4 hg4 ho5 hg5); have t5 := (row3_at G5.out.2.2.1 HC.out.1 HC.out.2).2.2; have z5 := row3_frozen G5.out.2.2.1 (k * 3 + 2); clear t3 ho4 hg4 ho5 hg5))
        have HF := Lib.hid (odd_close (i := 2) (kk' := kk.app (.cons 4 [] .nil .nil)) HP.out HV.out.1 rfl HV.out.2.1 hDw hgw G5.out.2.2.1 HV.out.2.2.1 HV.out.2.2.2.1 G5.out.1 G5.out.2.1 (u := .slice (some ⟨g5, 0, none⟩) (kk.len + 1) cap5) (by rw [F.len_app]; exact HSE.out.2.2 _) HU.out.1 ((HN.out.2.1 _ G5.out.1).imp fun b hb => .inl hb) (G5.out.2.2.2.imp fun b hb => hb.imp (fun h => h) fun h => ⟨by have := h.1; omega, h.2.1, h.2.2⟩) HV.out.2.2.2.2.1 HV.out.2.2.2.2.2.1 HV.out.2.2.2.2.2.2.1 (by omega) (F.od_app HV.out.2.2.2.2.2.2.2 ⟨by decide, by simp, trivial, trivial⟩) (by rw [F.size_app]; simp [F.size]))
        clear G5 G3 HN HU HC HSE HV
        go_wp2_with fail
        go_ret
        exact HF.out
      all_goals
        have t3 := (row3_at G3.out.2.2 HC.out.1 HC.out.2).2.2
        have HI := Lib.hid (IH.out kk (m - 1) Ak ck D w3 p (by omega) HU.out.2.2.2 (fun b hb => ⟨by have := HP.out b hb; omega, (HP.out b hb).2⟩) (HN.out.2.2 _ G3.out.1) G3.out.2.1)
        go_wp2_with fail
        refine HI.out.mono ?_
        rintro e w4 ⟨f', A', c', rfl, hod, hfs, hsee, hg4, hd4⟩
        have G4 := Lib.hid (show w.grownBy w4 (some D) ∧ DiceOk w4 D ∧ w4.ownsRow w.heap.size 32 3 (.slice (some ⟨g, 0, none⟩) f.len cap) f.len cs from ⟨grown_trans G3.out.1 hg4, hd4, own_far G3.out.2.2 hg4 hob⟩)
        have t4 := (row3_at G4.out.2.2 HC.out.1 HC.out.2).2.2
        have z4 := row3_frozen G4.out.2.2 (k * 3 + 2)
        have HF := Lib.hid (odd_close (i := 2) (kk' := f') HP.out HV.out.1 rfl HV.out.2.1 hDw hgw G4.out.2.2 HV.out.2.2.1 HV.out.2.2.2.1 G4.out.1 G4.out.2.1 (HSE.out.2.2 (.slice A' f'.len c')) HU.out.1 ((HN.out.2.1 _ G4.out.1).imp fun b hb => .inl hb) (hsee.imp fun b hb => hb.imp (fun h => h) fun h => ⟨by have := h.1; omega, h.2, by have := h.1; omega⟩) HV.out.2.2.2.2.1 HV.out.2.2.2.2.2.1 HV.out.2.2.2.2.2.2.1 (by omega) hod hfs)
        clear hg4 hd4 hod hfs hsee G4 G3 HN HU HC HSE HV t3 HI
        go_wp2_with fail
        go_ret
        exact HF.out

end Go.Proofs.Ytipmmclahngabaa
