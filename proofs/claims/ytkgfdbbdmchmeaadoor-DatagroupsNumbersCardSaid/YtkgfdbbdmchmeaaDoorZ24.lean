/-
  What is proved here: what the program's list returns, where object returns what it should; Values and Kids lie within their capacities.
-/
import Derived.Test.YtkgfdbbdmchmeaaDoorRows
import Derived.Test.YtkgfdbbdmchmeaaDoorZ0
import Derived.Test.YtkgfdbbdmchmeaaDoorZ9
import Derived.Test.YtkgfdbbdmchmeaaDoorZ10
namespace Go.Proofs.YtkgfdbbdmchmeaaDoor
open Go.RowKit
set_option maxRecDepth 8000
set_option linter.unusedVariables false
def SeesC (w : World) (p : Nat → Prop) (A : Option Addr) (c : Nat) (f : F) : Prop := f.len ≤ c ∧ SeesN w p A f
theorem SeesC.keep {w w' : World} {p : Nat → Prop} {A : Option Addr} {c : Nat} {f : F} (h : SeesC w p A c f) (hk : ∀ q : Addr, p q.block → w'.cell? q = w.cell? q) : SeesC w' p A c f := ⟨h.1, h.2.keep hk⟩
theorem SeesC.imp {w : World} {p p' : Nat → Prop} {A : Option Addr} {c : Nat} {f : F} (h : SeesC w p A c f) (hp : ∀ b, p b → p' b) : SeesC w p' A c f := ⟨h.1, h.2.imp hp⟩
theorem SeesC.nil_ {w : World} {p : Nat → Prop} {A : Option Addr} : SeesC w p A 0 .nil := ⟨Nat.le_refl _, SeesN.nil_⟩
def ObjIsC (w : World) (R : Nat) (p : Nat → Prop) (st : Bool) (r : Except Int ObR) (e : Ending) (w' : World) : Prop :=
  w.grownBy w' (some R) ∧ match r with
  | .error x => ∃ (t : Int) (A1 : Option Addr) (n1 c1 : Nat) (A2 : Option Addr) (n2 c2 : Nat) (A : Option Addr) (n m c' : Nat), e = .returned (.tuple #[.agg #[.int .i64 t, .slice A1 n1 c1, .slice A2 n2 c2], .slice A n m, .int .i64 x]) ∧ x ≠ 0 ∧ Rd w' R st c'
  | .ok (t, v, k, rest, c') => ∃ Av cv Ak ck Ar cr, e = .returned (.tuple #[.agg #[.int .i64 t, .slice Av v.length cv, .slice Ak k.len ck], .slice Ar rest.length cr, .int .i64 0]) ∧
      Rd w' R st c' ∧ ((Av = none → cv = 0) ∧ v.length ≤ cv) ∧ SeesP w' (newB w w') Av (Us v) ∧ SeesC w' (newB w w') Ak ck k ∧ SeesP w' p Ar (Us rest) ∧ rest.length ≤ cr
def ListIsC (w : World) (R : Nat) (st : Bool) (r : Except Int (F × Nat)) (e : Ending) (w' : World) : Prop :=
  w.grownBy w' (some R) ∧ match r with
  | .error x => e = .returned (.tuple #[.slice none 0 0, .int .i64 x]) ∧ x ≠ 0 ∧ ∃ c', Rd w' R st c'
  | .ok (f, c') => ∃ A c, e = .returned (.tuple #[.slice A f.len c, .int .i64 0]) ∧ Rd w' R st c' ∧ SeesC w' (newB w w') A c f
def MarkIsC (w : World) (R : Nat) (p : Nat → Prop) (st : Bool) (r : Except Int (F × List UInt8 × Nat)) (e : Ending) (w' : World) : Prop :=
  w.grownBy w' (some R) ∧ match r with
  | .error x => e = .returned (.tuple #[.slice none 0 0, .slice none 0 0, .int .i64 x]) ∧ x ≠ 0 ∧ ∃ c', Rd w' R st c'
  | .ok (f, rest, c') => ∃ A c Ar cr, e = .returned (.tuple #[.slice A f.len c, .slice Ar rest.length cr, .int .i64 0]) ∧ Rd w' R st c' ∧ SeesC w' (newB w w') A c f ∧ SeesP w' p Ar (Us rest) ∧ rest.length ≤ cr
def ObjAllC (st : Bool) (k : Nat) : Prop := ∀ (c : Nat) (l : List UInt8) (A : Option Addr) (cap : Nat) (w : World) (R : Nat) (p : Nat → Prop), (∀ x, p x → oldB w R x) → c ≤ 256 → l.length ≤ 4096 → l.length ≤ cap → Rd w R st c → SeesP w p A (Us l) →
  Calls Tryd.prog 77 #[.pointer (some ⟨R, 0, none⟩), .slice A l.length cap, .int .i64 (9 - (k : Int))] w (ObjIsC w R p st (pObj st k c l))
def ListAllC (st : Bool) (k : Nat) : Prop := ∀ (c : Nat) (l : List UInt8) (A : Option Addr) (cap : Nat) (w : World) (R : Nat), c ≤ 256 → l.length ≤ 4096 → l.length ≤ cap → Rd w R st c → SeesP w (oldB w R) A (Us l) →
  Calls Tryd.prog 76 #[.pointer (some ⟨R, 0, none⟩), .slice A l.length cap, .int .i64 (9 - (k : Int))] w (ListIsC w R st (loopL (pObj st k) l.length c l))
def MarkAllC (st : Bool) (k : Nat) : Prop := ∀ (c : Nat) (l : List UInt8) (A : Option Addr) (cap : Nat) (w : World) (R : Nat) (p : Nat → Prop), (∀ x, p x → oldB w R x) → c ≤ 256 → l.length ≤ 4096 → l.length ≤ cap → Rd w R st c → SeesP w p A (Us l) →
  Calls Tryd.prog 80 #[.pointer (some ⟨R, 0, none⟩), .slice A l.length cap, .int .i64 (9 - (k : Int))] w (MarkIsC w R p st (loopM (pObj st k) l.length c l))
def HeldC (w wr : World) (v : Value) (f : F) : Prop := ∃ cs, wr.ownsRow w.heap.size 50 3 v f.len cs ∧ HoldsN wr (fun b => newB w wr b ∧ v.ownBlock ≠ some b) f cs
theorem HeldC.start (w wr : World) : HeldC w wr (.slice none 0 0) .nil := ⟨[], ⟨rfl, .inl ⟨rfl, rfl⟩⟩, rfl⟩
theorem HeldC.grown {w wr w' : World} {R : Nat} {v : Value} {f : F} (h : HeldC w wr v f) (hR : R < w.heap.size) (hg : wr.grownBy w' (some R)) : HeldC w w' v f := by
  obtain ⟨cs, h1, h2⟩ := h
  refine ⟨cs, own_far h1 hg ?_, ?_⟩
  · rcases own_size3 h1 with e | ⟨g, e, hb, _⟩
    · rw [e]; simp
    · rw [e]; intro h; injection h with h; omega
  · refine HoldsN.imp (fun _ hb => ⟨⟨hb.1.1, Nat.lt_of_lt_of_le hb.1.2 hg.size⟩, hb.2⟩) (HoldsN.keep (fun _ hq => grown_cell hg hq.1.2 (by have := hq.1.1; omega)) h2)
theorem HeldC.slice {w wr : World} {v : Value} {f : F} (h : HeldC w wr v f) : ∃ A c, v = .slice A f.len c ∧ SeesC wr (newB w wr) A c f := by
  obtain ⟨cs, h1, h2⟩ := h
  rcases h1.2 with ⟨rfl, h0⟩ | ⟨g, cap, cur, rfl, hb, hh, hn, hm, hs, ht⟩
  · have : f = .nil := F.len_zero h0
    subst this
    exact ⟨none, 0, rfl, SeesC.nil_⟩
  · refine ⟨_, cap, rfl, hn, cs, .inr ⟨g, 0, rfl, ⟨hb, lt_of_block hh⟩, fun j hj => ?_⟩, HoldsN.imp (fun _ hb => hb.1) h2⟩
    have hl := h1.1
    rw [Nat.zero_add, cell_of_row wr g j cur _ (0, 0) hh, ← ht, List.getElem?_take, if_pos (by omega), Array.getElem?_toList]
theorem HeldC.carry {w wr w' : World} {R : Nat} {v : Value} {f : F} {cs : List Value} (hR : R < w.heap.size) (hg : wr.grownBy w' (some R)) (h1 : wr.ownsRow w.heap.size 50 3 v f.len cs) (h2 : HoldsN wr (fun b => newB w wr b ∧ v.ownBlock ≠ some b) f cs) :
    w'.ownsRow w.heap.size 50 3 v f.len cs ∧ HoldsN w' (fun b => newB w wr b ∧ v.ownBlock ≠ some b) f cs := by
  refine ⟨own_far h1 hg ?_, HoldsN.keep (fun _ hq => grown_cell hg hq.1.2 (by have := hq.1.1; omega)) h2⟩
  rcases own_size3 h1 with e | ⟨g, e, hb, _⟩
  · rw [e]; simp
  · rw [e]; intro h; injection h with h; omega
theorem HeldC.snoc {w wr w1 wa w2 : World} {v : Value} {f : F} {t : Int} {x : List UInt8} {k : F} {Av Ak : Option Addr} {cv ck g cap : Nat} (h01 : wr.heap.size ≤ w1.heap.size) (ha : Below w1.heap.size w1 wa)
    (hn0 : (Av = none → cv = 0) ∧ x.length ≤ cv) (hv : SeesP w1 (newB wr w1) Av (Us x)) (hk : SeesC w1 (newB wr w1) Ak ck k) (hww : w.heap.size ≤ wr.heap.size)
    (hold : v.ownBlock = none ∨ ∃ g, v.ownBlock = some g ∧ w.heap.size ≤ g ∧ g < wr.heap.size) (cs : List Value) (hc2 : HoldsN w1 (fun b => newB w wr b ∧ v.ownBlock ≠ some b) f cs)
    (ho : w2.ownsRow w.heap.size 50 3 (.slice (some ⟨g, 0, none⟩) (f.len + 1) cap) (f.len + 1) (cs ++ [.int .i64 t, .slice Av x.length cv, .slice Ak k.len ck])) (hg : wa.grownBy w2 v.ownBlock)
    (hl : v.ownBlock = some g ∨ g = wa.heap.size) : HeldC w w2 (.slice (some ⟨g, 0, none⟩) (f.len + 1) cap) (f.app (.cons t x k .nil)) := by
  have keep : ∀ q : Addr, q.block < w1.heap.size → v.ownBlock ≠ some q.block → w2.cell? q = w1.cell? q := fun q h1 h2 =>
    (World.cell?_of_block (w := wa) (hg.block q.block (Nat.lt_of_lt_of_le h1 ha.size) (fun e => h2 e.symm))).trans (ha.cell h1)
  have hsz : w1.heap.size ≤ w2.heap.size := Nat.le_trans ha.size hg.size
  have hwa := ha.size
  refine ⟨_, by rw [F.len_app]; exact ho, HoldsN.app ?_ ?_⟩
  · refine HoldsN.imp ?_ (HoldsN.keep (w' := w2) (fun q hq => keep q (Nat.lt_of_lt_of_le hq.1.2 h01) hq.2) hc2)
    intro b hb
    have h4 := hb.1.2
    refine ⟨⟨hb.1.1, by omega⟩, ?_⟩
    intro e
    injection e with e
    simp only at e
    rcases hl with h3 | h3
    · exact hb.2 (h3.trans (by rw [e]))
    · omega
  · have hp : ∀ b, newB wr w1 b → newB w w2 b ∧ (Value.slice (some ⟨g, 0, none⟩) (f.len + 1) cap).ownBlock ≠ some b := by
      intro b hb
      have h5 := hb.1
      have h6 := hb.2
      refine ⟨⟨by omega, by omega⟩, ?_⟩
      intro e
      injection e with e
      simp only at e
      rcases hl with h3 | h3
      · rcases hold with h4 | ⟨g2, h4, _, h7⟩
        · rw [h4] at h3; cases h3
        · rw [h4] at h3; injection h3 with h3; omega
      · omega
    have kp : ∀ q : Addr, newB wr w1 q.block → w2.cell? q = w1.cell? q := by
      intro q hq
      refine keep q hq.2 ?_
      have h5 := hq.1
      rcases hold with h4 | ⟨g2, h4, _, h7⟩
      · rw [h4]; simp
      · rw [h4]; intro e; injection e with e; omega
    obtain ⟨hk0, ks, hk1, hk2⟩ := hk
    exact ⟨Av, cv, Ak, ck, ks, [], rfl, ⟨hn0.1, hn0.2, hk0⟩, (hv.keep kp).imp hp, (hk1.keep kp).imp hp, HoldsN.imp hp (HoldsN.keep kp hk2), rfl⟩
def LstRelC (w : World) (R : Nat) (st : Bool) (ob : Nat → List UInt8 → Except Int ObR) (res : Except Int (F × Nat)) (v : Value) (acc : F) (A : Option Addr) (b : List UInt8) (m c : Nat) (wr : World) : Prop :=
  HeldC w wr v acc ∧ SeesP wr (oldB w R) A (Us b) ∧ Rd wr R st c ∧ c ≤ 256 ∧ w.grownBy wr (some R) ∧ b.length ≤ m ∧ joinL acc (loopL ob m c b) = res
set_option maxHeartbeats 1000000 in
theorem rd_listC (st : Bool) (k : Nat) (hO : ObjAllC st k) : ListAllC st k := by
  intro c l A cap w R hc hl hcap hr hs
  obtain ⟨i0, hi, hz0, hz1, hz2⟩ := info_parts info_node
  have hR := lt_of_block hr
  have HO := Lib.hid hO
  have H0 := Lib.hid (show LstRelC w R st (pObj st k) (loopL (pObj st k) l.length c l) (.slice none 0 0) .nil A l l.length c w from ⟨HeldC.start w w, hs, hr, hc, World.grownBy.refl _ _, Nat.le_refl _, joinL_nil _⟩)
  clear hr hs hO
  go_enter Tryd.func76, Tryd.ntmps76
  go_wp2_with fail
  go_loopw [8, 1] (fun v q wr => ∃ (acc : F) (Ab : Option Addr) (cb : Nat) (b : List UInt8) (m cN : Nat), q = .slice Ab b.length cb ∧ acc.len + b.length ≤ 4096 ∧ b.length ≤ cb ∧ Hid (LstRelC w R st (pObj st k) (loopL (pObj st k) l.length c l) v acc Ab b m cN wr)) (fun _ q _ => lenOf q)
  case atStart => exact ⟨.nil, A, cap, l, l.length, c, rfl, by simp only [F.len]; omega, hcap, H0⟩
  case round =>
    clear H0
    obtain ⟨acc, Ab, cb, b, m, cN, rfl, hlen, hcb, HL⟩ := hrel
    cases b with
    | nil =>
      obtain ⟨h1, _, h3, _, h5, _, h7⟩ := HL.out
      obtain ⟨A2, c2, hv, hs2⟩ := h1.slice
      subst hv
      have hd : ListIsC w R st (loopL (pObj st k) l.length c l) (.returned (.tuple #[.slice A2 acc.len c2, .int .i64 0])) wr := by
        rw [← h7, loopL_end]
        refine ⟨h5, A2, c2, ?_, h3, ?_⟩
        · rw [F.app_nil]
        · rw [F.app_nil]; exact hs2
      have HD := Lib.hid hd
      clear hd h1 h3 h5 h7 hs2 HL
      go_wp2_with fail
      go_ret2
      exact HD.out
    | cons a b =>
      have d0 : decide ((0 : Int) < ((a :: b).length : Int)) = true := by simp
      obtain ⟨B, hB⟩ : ∃ B, B = a :: b := ⟨_, rfl⟩
      have hB0 : 0 < B.length := by rw [hB]; simp
      rw [← hB] at HL hlen d0 hcb ⊢
      have HB := Lib.hid (show B ≠ [] by rw [hB]; simp)
      clear hB
      have hc2 := HO.out cN B Ab cb wr R (oldB w R) (fun x hx => ⟨Nat.lt_of_lt_of_le hx.1 HL.out.2.2.2.2.1.size, hx.2⟩) HL.out.2.2.2.1 (by omega) hcb HL.out.2.2.1 HL.out.2.1
      go_wp2_with fail
      refine hc2.mono ?_
      rintro e w1 ⟨hg, hres⟩
      obtain ⟨m', rfl⟩ : ∃ m', m = m' + 1 := ⟨m - 1, by have := HL.out.2.2.2.2.2.1; omega⟩
      obtain ⟨r, hr⟩ : ∃ r, pObj st k cN B = r := ⟨_, rfl⟩
      rw [hr] at hres
      have HJ := Lib.hid HL.out.2.2.2.2.2.2
      have HG := Lib.hid (grown_trans HL.out.2.2.2.2.1 hg)
      have HH := Lib.hid (HL.out.1.grown hR hg)
      cases r with
      | error x =>
        obtain ⟨t, A1, n1, c1, A2, n2, c2, A3, n3, m3, c', rfl, hx, hrd⟩ := hres
        have hstep := loopL_err (m := m') HB.out hr
        have hd : ∀ o, ListIsC w R st (loopL (pObj st k) l.length c l) (.returned (.tuple #[.slice none 0 0, .int .i64 x])) (w1.alloc o) := fun o => by
          rw [← HJ.out, hstep]
          exact ⟨grown_trans HG.out (grown_alloc _ o _), rfl, hx, c', block_alloc hrd o⟩
        have HD := Lib.hid hd
        have d1 : (x != 0) = true := by simpa using hx
        clear hd hx hrd hstep HJ hr HH HL hg hc2
        go_wp2_with fail
        go_ret2
        exact HD.out _
      | ok q =>
        obtain ⟨t, v, kf, rest, c'⟩ := q
        obtain ⟨Av, cv, Ak, ck, Ar, cr, rfl, hrd, hn0, hv, hkf, hrest, hcr⟩ := hres
        have hstep := loopL_ok (m := m') HB.out hr
        have hrl := pObj_rest st k cN B t v kf rest c' hr
        obtain ⟨cs, hown0, hh0⟩ := HL.out.1
        obtain ⟨hown, hh⟩ := HeldC.carry hR hg hown0 hh0
        have HW := Lib.hid (own_size3 hown0)
        have HN := Lib.hid (show Rd w1 R st c' ∧ ((Av = none → cv = 0) ∧ v.length ≤ cv) ∧ SeesP w1 (newB wr w1) Av (Us v) ∧ SeesC w1 (newB wr w1) Ak ck kf ∧ SeesP w1 (oldB w R) Ar (Us rest) ∧ c' ≤ 256 from ⟨hrd, hn0, hv, hkf, hrest, hrl.2⟩)
        have hrl2 := hrl.1
        have HHH := Lib.hid hh
        have HST := Lib.hid hstep
        clear hrd hn0 hv hkf hrest hstep hr hh hrl hc2 hown0 hh0
        go_wp2_with (at_builtin; refine wpList_append_lies _ rfl (.tmp 26) (.tmp 28) 31 rfl w.heap.size 50 i0 _ 3 56 Tryd.underlying31 hi hz0 hz1 hz2 rfl (by decide) u8 acc.len cs rfl ((hown.alloc _).alloc _) ⟨_, 0, none⟩ 1 1 _ rfl rfl (World.news_of_block (block_next w1 _ _)) (node_cells _ _ _ _ _ _ _) (by decide) (by unfold maxLen; omega) (by omega) (by have := HG.out.size; simp; omega) _ rfl ?_; intro g cap2 w2 ho hg2 hl2 _)
        have hb2 : Below w1.heap.size w1 _ := ((Below.refl w1.heap.size w1).alloc (Nat.le_refl _) (.cells #[.int .i64 t, .slice Av v.length cv, .slice Ak kf.len ck] 50)).alloc (by simp) (.cells #[.int .i64 t, .slice Av v.length cv, .slice Ak kf.len ck] 50)
        have hsn := HeldC.snoc hg.size hb2 HN.out.2.1 HN.out.2.2.1 HN.out.2.2.2.1 HL.out.2.2.2.2.1.size HW.out cs HHH.out ho hg2 hl2
        have hrow : Rd w2 R st c' := by
          have h1 : Rd _ R st c' := block_alloc (block_alloc HN.out.1 (.cells #[.int .i64 t, .slice Av v.length cv, .slice Ak kf.len ck] 50)) (.cells #[.int .i64 t, .slice Av v.length cv, .slice Ak kf.len ck] 50)
          refine (hg2.block R (lt_of_block h1) ?_).trans h1
          rcases HW.out with h4 | ⟨g2, h4, h5, _⟩
          · rw [h4]; simp
          · rw [h4]; intro e; injection e with e; omega
        have hgw : w.grownBy w2 (some R) := by
          have h1 := HG.out
          refine ⟨hg2.os.trans (hb2.os.trans h1.os), hg2.tape.trans (hb2.tape.trans h1.tape), hg2.output.trans (hb2.output.trans h1.output), Nat.le_trans h1.size (Nat.le_trans hb2.size hg2.size), fun j hj hj2 => ?_⟩
          refine (hg2.block j (Nat.lt_of_lt_of_le hj (Nat.le_trans h1.size hb2.size)) ?_).trans ((hb2.block j (Nat.lt_of_lt_of_le hj h1.size)).trans (h1.block j hj hj2))
          rcases HW.out with h4 | ⟨g2, h4, h5, _⟩
          · rw [h4]; simp
          · rw [h4]; intro e; injection e with e; omega
        have hbytes : SeesP w2 (oldB w R) Ar (Us rest) := by
          refine HN.out.2.2.2.2.1.keep fun q hq => ?_
          have h6 : q.block < w1.heap.size := Nat.lt_of_lt_of_le hq.1 HG.out.size
          refine (World.cell?_of_block (hg2.block q.block (Nat.lt_of_lt_of_le h6 hb2.size) ?_)).trans (hb2.cell h6)
          have h7 := hq.1
          rcases HW.out with h4 | ⟨g2, h4, h5, _⟩
          · rw [h4]; simp
          · rw [h4]; intro e; injection e with e; omega
        have HF := Lib.hid (show LstRelC w R st (pObj st k) (loopL (pObj st k) l.length c l) _ _ Ar rest m' c' w2 from ⟨hsn, hbytes, hrow, HN.out.2.2.2.2.2, hgw, by have := HL.out.2.2.2.2.2.1; omega, by rw [← HJ.out, HST.out, joinL_join]⟩)
        clear hb2 hsn hrow hgw hbytes ho hg2 hl2
        go_roundw
        case rel => exact ⟨_, Ar, cr, rest, m', c', rfl, by rw [F.len_app]; simp only [F.len]; omega, hcr, HF⟩
        case measure => simp only [lenOf]; omega
end Go.Proofs.YtkgfdbbdmchmeaaDoor
