/-
  What is proved here: what the program's list returns, where object returns what it should; Values and Kids lie within their capacities.
-/
import Derived.Test.YtcapbojjceeapaaDoorRows
import Derived.Test.YtcapbojjceeapaaDoorWG1
import Derived.Test.YtcapbojjceeapaaDoorWG2
import Derived.Test.YtcapbojjceeapaaDoorWG3
import Derived.Test.YtcapbojjceeapaaDoorWG4
namespace Go.Proofs.YtcapbojjceeapaaDoor
open Go.RowKit
set_option maxRecDepth 8000
set_option linter.unusedVariables false
def SeesC (w : World) (p : Nat → Prop) (A : Option Addr) (c : Nat) (f : F) : Prop := f.len ≤ c ∧ SeesN w p A f
theorem SeesC.keep {w w' : World} {p : Nat → Prop} {A : Option Addr} {c : Nat} {f : F} (h : SeesC w p A c f) (hk : ∀ q : Addr, p q.block → w'.cell? q = w.cell? q) : SeesC w' p A c f := ⟨h.1, h.2.keep hk⟩
theorem SeesC.imp {w : World} {p p' : Nat → Prop} {A : Option Addr} {c : Nat} {f : F} (h : SeesC w p A c f) (hp : ∀ b, p b → p' b) : SeesC w p' A c f := ⟨h.1, h.2.imp hp⟩
theorem SeesC.nil_ {w : World} {p : Nat → Prop} {A : Option Addr} : SeesC w p A 0 .nil := ⟨Nat.le_refl _, SeesN.nil_⟩
def ObjIsC (w : World) (R : Nat) (p : Nat → Prop) (st : Bool) (r : Except Int ObR) (e : Ending) (w' : World) : Prop :=
  w.grownBy w' (some R) ∧ match r with
  | .error x => ∃ (t : Int) (A1 : Option Addr) (n1 c1 : Nat) (A2 : Option Addr) (n2 c2 : Nat) (A : Option Addr) (n m c' : Nat), e = .returned (.tuple #[.agg #[.int .i64 t, .slice A1 n1 c1, .slice A2 n2 c2], .slice A n m, .int .i64 x]) ∧ x ≠ 0 ∧ Rd w' R st c'
  | .ok (t, v, k, rest, c') => ∃ Av cv Ak ck Ar cr, e = .returned (.tuple #[.agg #[.int .i64 t, .slice Av v.length cv, .slice Ak k.len ck], .slice Ar rest.length cr, .int .i64 0]) ∧
      Rd w' R st c' ∧ ((Av = none → cv = 0) ∧ v.length ≤ cv) ∧ SeesP w' (newB w w') Av (Us v) ∧ SeesC w' (newB w w') Ak ck k ∧ SeesP w' p Ar (Us rest) ∧ rest.length ≤ cr
def ListIsC (w : World) (R : Nat) (st : Bool) (r : Except Int (F × Nat)) (e : Ending) (w' : World) : Prop :=
  w.grownBy w' (some R) ∧ match r with
  | .error x => e = .returned (.tuple #[.slice none 0 0, .int .i64 x]) ∧ x ≠ 0 ∧ ∃ c', Rd w' R st c'
  | .ok (f, c') => ∃ A c, e = .returned (.tuple #[.slice A f.len c, .int .i64 0]) ∧ Rd w' R st c' ∧ SeesC w' (newB w w') A c f
def MarkIsC (w : World) (R : Nat) (p : Nat → Prop) (st : Bool) (r : Except Int (F × List UInt8 × Nat)) (e : Ending) (w' : World) : Prop :=
  w.grownBy w' (some R) ∧ match r with
  | .error x => e = .returned (.tuple #[.slice none 0 0, .slice none 0 0, .int .i64 x]) ∧ x ≠ 0 ∧ ∃ c', Rd w' R st c'
  | .ok (f, rest, c') => ∃ A c Ar cr, e = .returned (.tuple #[.slice A f.len c, .slice Ar rest.length cr, .int .i64 0]) ∧ Rd w' R st c' ∧ SeesC w' (newB w w') A c f ∧ SeesP w' p Ar (Us rest) ∧ rest.length ≤ cr
def ObjAllC (st : Bool) (k : Nat) : Prop := ∀ (c : Nat) (l : List UInt8) (A : Option Addr) (cap : Nat) (w : World) (R : Nat) (p : Nat → Prop), (∀ x, p x → oldB w R x) → c ≤ 256 → l.length ≤ 4096 → l.length ≤ cap → Rd w R st c → SeesP w p A (Us l) →
  Calls Tryd.prog 81 #[.pointer (some ⟨R, 0, none⟩), .slice A l.length cap, .int .i64 (9 - (k : Int))] w (ObjIsC w R p st (pObj st k c l))
def ListAllC (st : Bool) (k : Nat) : Prop := ∀ (c : Nat) (l : List UInt8) (A : Option Addr) (cap : Nat) (w : World) (R : Nat), c ≤ 256 → l.length ≤ 4096 → l.length ≤ cap → Rd w R st c → SeesP w (oldB w R) A (Us l) →
  Calls Tryd.prog 54 #[.pointer (some ⟨R, 0, none⟩), .slice A l.length cap, .int .i64 (9 - (k : Int))] w (ListIsC w R st (loopL (pObj st k) l.length c l))
def MarkAllC (st : Bool) (k : Nat) : Prop := ∀ (c : Nat) (l : List UInt8) (A : Option Addr) (cap : Nat) (w : World) (R : Nat) (p : Nat → Prop), (∀ x, p x → oldB w R x) → c ≤ 256 → l.length ≤ 4096 → l.length ≤ cap → Rd w R st c → SeesP w p A (Us l) →
  Calls Tryd.prog 92 #[.pointer (some ⟨R, 0, none⟩), .slice A l.length cap, .int .i64 (9 - (k : Int))] w (MarkIsC w R p st (loopM (pObj st k) l.length c l))
def HeldC (w wr : World) (v : Value) (f : F) : Prop := ∃ cs, wr.ownsRow w.heap.size 54 3 v f.len cs ∧ HoldsN wr (fun b => newB w wr b ∧ v.ownBlock ≠ some b) f cs
theorem HeldC.start (w wr : World) : HeldC w wr (.slice none 0 0) .nil := ⟨[], ⟨rfl, .inl ⟨rfl, rfl⟩⟩, rfl⟩
theorem HeldC.grown {w wr w' : World} {R : Nat} {v : Value} {f : F} (h : HeldC w wr v f) (hR : R < w.heap.size) (hg : wr.grownBy w' (some R)) : HeldC w w' v f := by
  obtain ⟨cs, h1, h2⟩ := h
  refine ⟨cs, own_far h1 hg ?_, ?_⟩
  · rcases own_size3 h1 with e | ⟨g, e, hb, _⟩
    · rw [e]; simp
    · rw [e]; intro h; injection h with h; omega
  · refine HoldsN.imp (fun _ hb => ⟨⟨hb.1.1, Nat.lt_of_lt_of_le hb.1.2 hg.size⟩, hb.2⟩) (HoldsN.keep (fun _ hq => grown_cell hg hq.1.2 (by have := hq.1.1; omega)) h2)
theorem HeldC.slice {w wr : World} {v : Value} {f : F} (h : HeldC w wr v f) : ∃ A c, v = .slice A f.len c ∧ SeesC wr (newB w wr) A c f := by
  obtain ⟨cs, h1, h2⟩ := h
  rcases h1.2 with ⟨rfl, h0⟩ | ⟨g, cap, cur, rfl, hb, hh, hn, hm, hs, ht⟩
  · have : f = .nil := F.len_zero h0
    subst this
    exact ⟨none, 0, rfl, SeesC.nil_⟩
  · refine ⟨_, cap, rfl, hn, cs, .inr ⟨g, 0, rfl, ⟨hb, lt_of_block hh⟩, fun j hj => ?_⟩, HoldsN.imp (fun _ hb => hb.1) h2⟩
    have hl := h1.1
    rw [Nat.zero_add, cell_of_row wr g j cur _ (0, 0) hh, ← ht, List.getElem?_take, if_pos (by omega), Array.getElem?_toList]
theorem HeldC.carry {w wr w' : World} {R : Nat} {v : Value} {f : F} {cs : List Value} (hR : R < w.heap.size) (hg : wr.grownBy w' (some R)) (h1 : wr.ownsRow w.heap.size 54 3 v f.len cs) (h2 : HoldsN wr (fun b => newB w wr b ∧ v.ownBlock ≠ some b) f cs) :
    w'.ownsRow w.heap.size 54 3 v f.len cs ∧ HoldsN w' (fun b => newB w wr b ∧ v.ownBlock ≠ some b) f cs := by
  refine ⟨own_far h1 hg ?_, HoldsN.keep (fun _ hq => grown_cell hg hq.1.2 (by have := hq.1.1; omega)) h2⟩
  rcases own_size3 h1 with e | ⟨g, e, hb, _⟩
  · rw [e]; simp
  · rw [e]; intro h; injection h with h; omega
theorem HeldC.snoc {w wr w1 wa w2 : World} {v : Value} {f : F} {t : Int} {x : List UInt8} {k : F} {Av Ak : Option Addr} {cv ck g cap : Nat} (h01 : wr.heap.size ≤ w1.heap.size) (ha : Below w1.heap.size w1 wa)
    (hn0 : (Av = none → cv = 0) ∧ x.length ≤ cv) (hv : SeesP w1 (newB wr w1) Av (Us x)) (hk : SeesC w1 (newB wr w1) Ak ck k) (hww : w.heap.size ≤ wr.heap.size)
    (hold : v.ownBlock = none ∨ ∃ g, v.ownBlock = some g ∧ w.heap.size ≤ g ∧ g < wr.heap.size) (cs : List Value) (hc2 : HoldsN w1 (fun b => newB w wr b ∧ v.ownBlock ≠ some b) f cs)
    (ho : w2.ownsRow w.heap.size 54 3 (.slice (some ⟨g, 0, none⟩) (f.len + 1) cap) (f.len + 1) (cs ++ [.int .i64 t, .slice Av x.length cv, .slice Ak k.len ck])) (hg : wa.grownBy w2 v.ownBlock)
    (hl : v.ownBlock = some g ∨ g = wa.heap.size) : HeldC w w2 (.slice (some ⟨g, 0, none⟩) (f.len + 1) cap) (f.app (.cons t x k .nil)) := by
  have keep : ∀ q : Addr, q.block < w1.heap.size → v.ownBlock ≠ some q.block → w2.cell? q = w1.cell? q := fun q h1 h2 =>
    (World.cell?_of_block (w := wa) (hg.block q.block (Nat.lt_of_lt_of_le h1 ha.size) (fun e => h2 e.symm))).trans (ha.cell h1)
  have hsz : w1.heap.size ≤ w2.heap.size := Nat.le_trans ha.size hg.size
  have hwa := ha.size
  refine ⟨_, by rw [F.len_app]; exact ho, HoldsN.app ?_ ?_⟩
  · refine HoldsN.imp ?_ (HoldsN.keep (w' := w2) (fun q hq => keep q (Nat.lt_of_lt_of_le hq.1.2 h01) hq.2) hc2)
    intro b hb
    have h4 := hb.1.2
    refine ⟨⟨hb.1.1, by omega⟩, ?_⟩
    intro e
    injection e with e
    simp only at e
    rcases hl with h3 | h3
    · exact hb.2 (h3.trans (by rw [e]))
    · omega
  · have hp : ∀ b, newB wr w1 b → newB w w2 b ∧ (Value.slice (some ⟨g, 0, none⟩) (f.len + 1) cap).ownBlock ≠ some b := by
      intro b hb
      have h5 := hb.1
      have h6 := hb.2
      refine ⟨⟨by omega, by omega⟩, ?_⟩
      intro e
      injection e with e
      simp only at e
      rcases hl with h3 | h3
      · rcases hold with h4 | ⟨g2, h4, _, h7⟩
        · rw [h4] at h3; cases h3
        · rw [h4] at h3; injection h3 with h3; omega
      · omega
    have kp : ∀ q : Addr, newB wr w1 q.block → w2.cell? q = w1.cell? q := by
      intro q hq
      refine keep q hq.2 ?_
      have h5 := hq.1
      rcases hold with h4 | ⟨g2, h4, _, h7⟩
      · rw [h4]; simp
      · rw [h4]; intro e; injection e with e; omega
    obtain ⟨hk0, ks, hk1, hk2⟩ := hk
    exact ⟨Av, cv, Ak, ck, ks, [], rfl, ⟨hn0.1, hn0.2, hk0⟩, (hv.keep kp).imp hp, (hk1.keep kp).imp hp, HoldsN.imp hp (HoldsN.keep kp hk2), rfl⟩
def LstRelC (w : World) (R : Nat) (st : Bool) (ob : Nat → List UInt8 → Except Int ObR) (res : Except Int (F × Nat)) (v : Value) (acc : F) (A : Option Addr) (b : List UInt8) (m c : Nat) (wr : World) : Prop :=
  HeldC w wr v acc ∧ SeesP wr (oldB w R) A (Us b) ∧ Rd wr R st c ∧ c ≤ 256 ∧ w.grownBy wr (some R) ∧ b.length ≤ m ∧ joinL acc (loopL ob m c b) = res
set_option maxHeartbeats 1000000 in
theorem rd_listC (st : Bool) (k : Nat) (hO : ObjAllC st k) : ListAllC st k := by
  intro c l A cap w R hc hl hcap hr hs
  obtain ⟨i0, hi, hz0, hz1, hz2⟩ := info_parts info_node
  have hR := lt_of_block hr
  have HO := Lib.hid hO
  have H0 := Lib.hid (show LstRelC w R st (pObj st k) (loopL (pObj st k) l.length c l) (.slice none 0 0) .nil A l l.length c w from ⟨HeldC.start w w, hs, hr, hc, World.grownBy.refl _ _, Nat.le_refl _, joinL_nil _⟩)
  clear hr hs hO
  go_enter Tryd.func54, Tryd.ntmps54
  go_wp2_with fail
  go_loopw [8, 1] (fun v q wr => ∃ (acc : F) (Ab : Option Addr) (cb : Nat) (b : List UInt8) (m cN : Nat), q = .slice Ab b.length cb ∧ acc.len + b.length ≤ 4096 ∧ b.length ≤ cb ∧ Hid (LstRelC w R st (pObj st k) (loopL (pObj st k) l.length c l) v acc Ab b m cN wr)) (fun _ q _ => lenOf q)
  case atStart => exact ⟨.nil, A, cap, l, l.length, c, rfl, by simp only [F.len]; omega, hcap, H0⟩
  case round =>
    clear H0
    obtain ⟨acc, Ab, cb, b, m, cN, rfl, hlen, hcb, HL⟩ := hrel
    cases b with
    | nil =>
      obtain ⟨h1, _, h3, _, h5, _, h7⟩ := HL.out
      obtain ⟨A2, c2, hv, hs2⟩ := h1.slice
      subst hv
      have hd : ListIsC w R st (loopL (pObj st k) l.length c l) (.returned (.tuple #[.slice A2 acc.len c2, .int .i64 0])) wr := by
        rw [← h7, loopL_end]
        refine ⟨h5, A2, c2, ?_, h3, ?_⟩
        · rw [F.app_nil]
        · rw [F.app_nil]; exact hs2
      have HD := Lib.hid hd
      clear hd h1 h3 h5 h7 hs2 HL
      go_wp2_with fail
      go_ret2
      exact HD.out
    | cons a b =>
      have d0 : decide ((0 : Int) < ((a :: b).length : Int)) = true := by simp
      obtain ⟨B, hB⟩ : ∃ B, B = a :: b := ⟨_, rfl⟩
      have hB0 : 0 < B.length := by rw [hB]; simp
      rw [← hB] at HL hlen d0 hcb ⊢
      have HB := Lib.hid (show B ≠ [] by rw [hB]; simp)
      clear hB
      have hc2 := HO.out cN B Ab cb wr R (oldB w R) (fun x hx => ⟨Nat.lt_of_lt_of_le hx.1 HL.out.2.2.2.2.1.size, hx.2⟩) HL.out.2.2.2.1 (by omega) hcb HL.out.2.2.1 HL.out.2.1
      go_wp2_with fail
      refine hc2.mono ?_
      rintro e w1 ⟨hg, hres⟩
      obtain ⟨m', rfl⟩ : ∃ m', m = m' + 1 := ⟨m - 1, by have := HL.out.2.2.2.2.2.1; omega⟩
      obtain ⟨r, hr⟩ : ∃ r, pObj st k cN B = r := ⟨_, rfl⟩
      rw [hr] at hres
      have HJ := Lib.hid HL.out.2.2.2.2.2.2
      have HG := Lib.hid (grown_trans HL.out.2.2.2.2.1 hg)
      have HH := Lib.hid (HL.out.1.grown hR hg)
      cases r with
      | error x =>
        obtain ⟨t, A1, n1, c1, A2, n2, c2, A3, n3, m3, c', rfl, hx, hrd⟩ := hres
        have hstep := loopL_err (m := m') HB.out hr
        have hd : ∀ o, ListIsC w R st (loopL (pObj st k) l.length c l) (.returned (.tuple #[.slice none 0 0, .int .i64 x])) (w1.alloc o) := fun o => by
          rw [← HJ.out, hstep]
          exact ⟨grown_trans HG.out (grown_alloc _ o _), rfl, hx, c', block_alloc hrd o⟩
        have HD := Lib.hid hd
        have d1 : (x != 0) = true := by simpa using hx
        clear hd hx hrd hstep HJ hr HH HL hg hc2
        go_wp2_with fail
        go_ret2
        exact HD.out _
      | ok q =>
        obtain ⟨t, v, kf, rest, c'⟩ := q
        obtain ⟨Av, cv, Ak, ck, Ar, cr, rfl, hrd, hn0, hv, hkf, hrest, hcr⟩ := hres
        have hstep := loopL_ok (m := m') HB.out hr
        have hrl := pObj_rest st k cN B t v kf rest c' hr
        obtain ⟨cs, hown0, hh0⟩ := HL.out.1
        obtain ⟨hown, hh⟩ := HeldC.carry hR hg hown0 hh0
        have HW := Lib.hid (own_size3 hown0)
        have HN := Lib.hid (show Rd w1 R st c' ∧ ((Av = none → cv = 0) ∧ v.length ≤ cv) ∧ SeesP w1 (newB wr w1) Av (Us v) ∧ SeesC w1 (newB wr w1) Ak ck kf ∧ SeesP w1 (oldB w R) Ar (Us rest) ∧ c' ≤ 256 from ⟨hrd, hn0, hv, hkf, hrest, hrl.2⟩)
        have hrl2 := hrl.1
        have HHH := Lib.hid hh
        have HST := Lib.hid hstep
        clear hrd hn0 hv hkf hrest hstep hr hh hrl hc2 hown0 hh0
        go_wp2_with (at_builtin; refine wpList_append_lies _ rfl (.tmp 26) (.tmp 28) 52 rfl w.heap.size 54 i0 _ 3 56 Tryd.underlying52 hi hz0 hz1 hz2 rfl (by decide) u8 acc.len cs rfl ((hown.alloc _).alloc _) ⟨_, 0, none⟩ 1 1 _ rfl rfl (World.news_of_block (block_next w1 _ _)) (node_cells _ _ _ _ _ _ _) (by decide) (by unfold maxLen; omega) (by omega) (by have := HG.out.size; simp; omega) _ rfl ?_; intro g cap2 w2 ho hg2 hl2 _)
        have hb2 : Below w1.heap.size w1 _ := ((Below.refl w1.heap.size w1).alloc (Nat.le_refl _) (.cells #[.int .i64 t, .slice Av v.length cv, .slice Ak kf.len ck] 54)).alloc (by simp) (.cells #[.int .i64 t, .slice Av v.length cv, .slice Ak kf.len ck] 54)
        have hsn := HeldC.snoc hg.size hb2 HN.out.2.1 HN.out.2.2.1 HN.out.2.2.2.1 HL.out.2.2.2.2.1.size HW.out cs HHH.out ho hg2 hl2
        have hrow : Rd w2 R st c' := by
          have h1 : Rd _ R st c' := block_alloc (block_alloc HN.out.1 (.cells #[.int .i64 t, .slice Av v.length cv, .slice Ak kf.len ck] 54)) (.cells #[.int .i64 t, .slice Av v.length cv, .slice Ak kf.len ck] 54)
          refine (hg2.block R (lt_of_block h1) ?_).trans h1
          rcases HW.out with h4 | ⟨g2, h4, h5, _⟩
          · rw [h4]; simp
          · rw [h4]; intro e; injection e with e; omega
        have hgw : w.grownBy w2 (some R) := by
          have h1 := HG.out
          refine ⟨hg2.os.trans (hb2.os.trans h1.os), hg2.tape.trans (hb2.tape.trans h1.tape), hg2.output.trans (hb2.output.trans h1.output), Nat.le_trans h1.size (Nat.le_trans hb2.size hg2.size), fun j hj hj2 => ?_⟩
          refine (hg2.block j (Nat.lt_of_lt_of_le hj (Nat.le_trans h1.size hb2.size)) ?_).trans ((hb2.block j (Nat.lt_of_lt_of_le hj h1.size)).trans (h1.block j hj hj2))
          rcases HW.out with h4 | ⟨g2, h4, h5, _⟩
          · rw [h4]; simp
          · rw [h4]; intro e; injection e with e; omega
        have hbytes : SeesP w2 (oldB w R) Ar (Us rest) := by
          refine HN.out.2.2.2.2.1.keep fun q hq => ?_
          have h6 : q.block < w1.heap.size := Nat.lt_of_lt_of_le hq.1 HG.out.size
          refine (World.cell?_of_block (hg2.block q.block (Nat.lt_of_lt_of_le h6 hb2.size) ?_)).trans (hb2.cell h6)
          have h7 := hq.1
          rcases HW.out with h4 | ⟨g2, h4, h5, _⟩
          · rw [h4]; simp
          · rw [h4]; intro e; injection e with e; omega
        have HF := Lib.hid (show LstRelC w R st (pObj st k) (loopL (pObj st k) l.length c l) _ _ Ar rest m' c' w2 from ⟨hsn, hbytes, hrow, HN.out.2.2.2.2.2, hgw, by have := HL.out.2.2.2.2.2.1; omega, by rw [← HJ.out, HST.out, joinL_join]⟩)
        clear hb2 hsn hrow hgw hbytes ho hg2 hl2
        go_roundw
        case rel => exact ⟨_, Ar, cr, rest, m', c', rfl, by rw [F.len_app]; simp only [F.len]; omega, hcr, HF⟩
        case measure => simp only [lenOf]; omega
set_option maxRecDepth 8000
set_option linter.unusedVariables false
def MrkRelC (w : World) (R : Nat) (p : Nat → Prop) (st : Bool) (ob : Nat → List UInt8 → Except Int ObR) (res : Except Int (F × List UInt8 × Nat)) (v : Value) (acc : F) (A : Option Addr) (b : List UInt8) (m c : Nat) (wr : World) : Prop :=
  HeldC w wr v acc ∧ SeesP wr p A (Us b) ∧ Rd wr R st c ∧ c ≤ 256 ∧ w.grownBy wr (some R) ∧ b.length ≤ m ∧ joinM acc (loopM ob m c b) = res
set_option maxHeartbeats 1000000 in
theorem rd_markC (st : Bool) (k : Nat) (hO : ObjAllC st k) : MarkAllC st k := by
  intro c l A cap w R p hp hc hl hcap hr hs
  obtain ⟨i0, hi, hz0, hz1, hz2⟩ := info_parts info_node
  have hR := lt_of_block hr
  have HO := Lib.hid hO
  have H0 := Lib.hid (show MrkRelC w R p st (pObj st k) (loopM (pObj st k) l.length c l) (.slice none 0 0) .nil A l l.length c w from ⟨HeldC.start w w, hs, hr, hc, World.grownBy.refl _ _, Nat.le_refl _, joinM_nil _⟩)
  clear hr hs hO
  go_enter Tryd.func92, Tryd.ntmps92
  go_wp2_with fail
  go_loopw [9, 1] (fun v q wr => ∃ (acc : F) (Ab : Option Addr) (cb : Nat) (b : List UInt8) (m cN : Nat), q = .slice Ab b.length cb ∧ acc.len + b.length ≤ 4096 ∧ b.length ≤ cb ∧ Hid (MrkRelC w R p st (pObj st k) (loopM (pObj st k) l.length c l) v acc Ab b m cN wr)) (fun _ q _ => lenOf q)
  case atStart => exact ⟨.nil, A, cap, l, l.length, c, rfl, by simp only [F.len]; omega, hcap, H0⟩
  case round =>
    clear H0
    obtain ⟨acc, Ab, cb, b, m, cN, rfl, hlen, hcb, HL⟩ := hrel
    by_cases h2 : b.length < 2
    · have hd : MarkIsC w R p st (loopM (pObj st k) l.length c l) (.returned (.tuple #[.slice none 0 0, .slice none 0 0, .int .i64 6])) wr := by
        obtain ⟨_, _, h3, _, h5, _, h7⟩ := HL.out
        rw [← h7, loopM_short h2]
        exact ⟨h5, rfl, by decide, _, h3⟩
      have HD := Lib.hid hd
      have d0 : decide ((b.length : Int) < 2) = true := by simp; omega
      clear hd HL h2
      go_wp2_with fail
      go_ret3
      exact HD.out
    · obtain ⟨B, rfl⟩ : ∃ B, b = B := ⟨_, rfl⟩
      have d0 : decide ((b.length : Int) < 2) = false := by simp; omega
      have hB2 : 2 ≤ b.length := by omega
      obtain ⟨b0, o0, rfl, hp0, g0⟩ := sees_byte HL.out.2.1 (k := 0) (by omega)
      obtain ⟨b1, o1, e1, _, g1⟩ := sees_byte HL.out.2.1 (k := 1) (by omega)
      injection e1 with e1
      injection e1 with e2 e3
      subst e2 e3
      simp only [Nat.add_zero] at g0
      obtain ⟨n0, hn0⟩ : ∃ n, n = (b[0]'(by omega)).toNat := ⟨_, rfl⟩
      obtain ⟨n1, hn1⟩ : ∃ n, n = (b[1]'(by omega)).toNat := ⟨_, rfl⟩
      rw [← hn0] at g0
      rw [← hn1] at g1
      obtain ⟨m', rfl⟩ : ∃ m', m = m' + 1 := ⟨m - 1, by have := HL.out.2.2.2.2.2.1; omega⟩
      have h00 := take_two (l := b) (by omega)
      rw [← hn0, ← hn1] at h00
      by_cases hz : n0 = 0 ∧ n1 = 0
      · have hlp := loopM_end (ob := pObj st k) (m := m') (c := cN) hB2 (h00.2 hz)
        obtain ⟨z0, z1⟩ := hz
        subst z0 z1
        have HLP := Lib.hid hlp
        obtain ⟨A2, c2, hv, hs2⟩ := HL.out.1.slice
        subst hv
        have hd : ∀ (Ar : Option Addr) (cr nq : Nat), SeesP wr p Ar (Us (b.drop 2)) → b.length - 2 ≤ cr → MarkIsC w R p st (loopM (pObj st k) l.length c l) (.returned (.tuple #[.slice A2 acc.len c2, .slice Ar (b.length - 2) cr, .int .i64 0])) (wr.drewN nq) := fun Ar cr nq hA hc => by
          obtain ⟨_, _, h3, _, h5, _, h7⟩ := HL.out
          rw [← h7, HLP.out]
          refine ⟨⟨h5.os, h5.tape, h5.output, h5.size, h5.block⟩, A2, c2, Ar, cr, ?_, h3, ?_, hA, by rw [List.length_drop]; exact hc⟩
          · rw [F.app_nil, List.length_drop]
          · rw [F.app_nil]; exact SeesC.imp (SeesC.keep (w' := wr.drewN nq) hs2 fun _ _ => rfl) fun _ hb => hb
        have HD := Lib.hid hd
        have HSB := Lib.hid (show SeesP wr p (some ⟨b0, o0 + 2, none⟩) (Us (b.drop 2)) from sees_drop HL.out.2.1 hB2)
        clear hn0 hn1 h00 hlp h2 hs2 hd HL
        go_wp2_with fail
        go_quiet (fail)
        go_wp2_with fail
        all_goals go_ret3
        · exact HD.out _ _ _ (sees_empty (by omega)) (by omega)
        · exact HD.out _ _ _ HSB.out (by omega)
      · have HZ := Lib.hid (show b.take 2 ≠ [0, 0] from fun e => hz (h00.1 e))
        have dz : ∀ (Q : Prop), (n0 = 0 → n1 ≠ 0 → Q) → (n0 ≠ 0 → Q) → Q := fun Q q1 q2 => by
          by_cases h : n0 = 0
          · exact q1 h fun h' => hz ⟨h, h'⟩
          · exact q2 h
        clear hn0 hn1 h00 h2 hz
        refine dz _ (fun z0 z1 => ?_) (fun z0 => ?_)
        all_goals first
          | (subst z0; have dn : ((n1 : Int) == 0) = false := (by simp; omega); clear z1)
          | (have dn : ((n0 : Int) == 0) = false := (by simp; omega); clear z0)
        all_goals
          have hc2 := HO.out cN b (some ⟨b0, o0, none⟩) cb wr R p (fun x hx => ⟨Nat.lt_of_lt_of_le (hp x hx).1 HL.out.2.2.2.2.1.size, (hp x hx).2⟩) HL.out.2.2.2.1 (by omega) hcb HL.out.2.2.1 HL.out.2.1
          go_wp2_with fail
          refine hc2.mono ?_
          rintro e w1 ⟨hg, hres⟩
          obtain ⟨r, hr⟩ : ∃ r, pObj st k cN b = r := ⟨_, rfl⟩
          rw [hr] at hres
          have HJ := Lib.hid HL.out.2.2.2.2.2.2
          have HG := Lib.hid (grown_trans HL.out.2.2.2.2.1 hg)
          have HH := Lib.hid (HL.out.1.grown hR hg)
          cases r with
          | error x =>
            obtain ⟨t, A1, nn1, c1, A2, n2, c2, A3, n3, m3, c', rfl, hx, hrd⟩ := hres
            have hstep := loopM_err (m := m') hB2 HZ.out hr
            have hd : ∀ o, MarkIsC w R p st (loopM (pObj st k) l.length c l) (.returned (.tuple #[.slice none 0 0, .slice none 0 0, .int .i64 x])) (w1.alloc o) := fun o => by
              rw [← HJ.out, hstep]
              exact ⟨grown_trans HG.out (grown_alloc _ o _), rfl, hx, c', block_alloc hrd o⟩
            have HD := Lib.hid hd
            have d1 : (x != 0) = true := by simpa using hx
            clear hd hx hrd hstep HJ hr HH HL hg hc2
            go_wp2_with fail
            go_ret3
            exact HD.out _
          | ok q =>
            obtain ⟨t, v, kf, rest, c'⟩ := q
            obtain ⟨Av, cv, Ak, ck, Ar, cr, rfl, hrd, hn0, hv, hkf, hrest, hcr⟩ := hres
            have hstep := loopM_ok (m := m') hB2 HZ.out hr
            have hrl := pObj_rest st k cN b t v kf rest c' hr
            obtain ⟨cs, hown0, hh0⟩ := HL.out.1
            obtain ⟨hown, hh⟩ := HeldC.carry hR hg hown0 hh0
            have HW := Lib.hid (own_size3 hown0)
            have HN := Lib.hid (show Rd w1 R st c' ∧ ((Av = none → cv = 0) ∧ v.length ≤ cv) ∧ SeesP w1 (newB wr w1) Av (Us v) ∧ SeesC w1 (newB wr w1) Ak ck kf ∧ SeesP w1 p Ar (Us rest) ∧ c' ≤ 256 from ⟨hrd, hn0, hv, hkf, hrest, hrl.2⟩)
            have hrl2 := hrl.1
            have HHH := Lib.hid hh
            have HST := Lib.hid hstep
            clear hrd hn0 hv hkf hrest hstep hr hh hrl hc2 hown0 hh0
            go_wp2_with (at_builtin; refine wpList_append_lies _ rfl (.tmp 40) (.tmp 42) 52 rfl w.heap.size 54 i0 _ 3 56 Tryd.underlying52 hi hz0 hz1 hz2 rfl (by decide) u9 acc.len cs rfl ((hown.alloc _).alloc _) ⟨_, 0, none⟩ 1 1 _ rfl rfl (World.news_of_block (block_next w1 _ _)) (node_cells _ _ _ _ _ _ _) (by decide) (by unfold maxLen; omega) (by omega) (by have := HG.out.size; simp; omega) _ rfl ?_; intro g cap2 w2 ho hg2 hl2 _)
            have hb2 : Below w1.heap.size w1 _ := ((Below.refl w1.heap.size w1).alloc (Nat.le_refl _) (.cells #[.int .i64 t, .slice Av v.length cv, .slice Ak kf.len ck] 54)).alloc (by simp) (.cells #[.int .i64 t, .slice Av v.length cv, .slice Ak kf.len ck] 54)
            have hsn := HeldC.snoc hg.size hb2 HN.out.2.1 HN.out.2.2.1 HN.out.2.2.2.1 HL.out.2.2.2.2.1.size HW.out cs HHH.out ho hg2 hl2
            have hrow : Rd w2 R st c' := by
              have h1 : Rd _ R st c' := block_alloc (block_alloc HN.out.1 (.cells #[.int .i64 t, .slice Av v.length cv, .slice Ak kf.len ck] 54)) (.cells #[.int .i64 t, .slice Av v.length cv, .slice Ak kf.len ck] 54)
              refine (hg2.block R (lt_of_block h1) ?_).trans h1
              rcases HW.out with h4 | ⟨g2, h4, h5, _⟩
              · rw [h4]; simp
              · rw [h4]; intro e; injection e with e; omega
            have hgw : w.grownBy w2 (some R) := by
              have h1 := HG.out
              refine ⟨hg2.os.trans (hb2.os.trans h1.os), hg2.tape.trans (hb2.tape.trans h1.tape), hg2.output.trans (hb2.output.trans h1.output), Nat.le_trans h1.size (Nat.le_trans hb2.size hg2.size), fun j hj hj2 => ?_⟩
              refine (hg2.block j (Nat.lt_of_lt_of_le hj (Nat.le_trans h1.size hb2.size)) ?_).trans ((hb2.block j (Nat.lt_of_lt_of_le hj h1.size)).trans (h1.block j hj hj2))
              rcases HW.out with h4 | ⟨g2, h4, h5, _⟩
              · rw [h4]; simp
              · rw [h4]; intro e; injection e with e; omega
            have hbytes : SeesP w2 p Ar (Us rest) := by
              refine HN.out.2.2.2.2.1.keep fun q hq => ?_
              have h6 : q.block < w1.heap.size := Nat.lt_of_lt_of_le (hp _ hq).1 HG.out.size
              refine (World.cell?_of_block (hg2.block q.block (Nat.lt_of_lt_of_le h6 hb2.size) ?_)).trans (hb2.cell h6)
              have h7 := (hp _ hq).1
              rcases HW.out with h4 | ⟨g2, h4, h5, _⟩
              · rw [h4]; simp
              · rw [h4]; intro e; injection e with e; omega
            have HF := Lib.hid (show MrkRelC w R p st (pObj st k) (loopM (pObj st k) l.length c l) _ _ Ar rest m' c' w2 from ⟨hsn, hbytes, hrow, HN.out.2.2.2.2.2, hgw, by have := HL.out.2.2.2.2.2.1; omega, by rw [← HJ.out, HST.out, joinM_join]⟩)
            clear hb2 hsn hrow hgw hbytes ho hg2 hl2
            go_roundw
            case rel => exact ⟨_, Ar, cr, rest, m', c', rfl, by rw [F.len_app]; simp only [F.len]; omega, hcr, HF⟩
            case measure => simp only [lenOf]; omega
set_option maxRecDepth 8000
set_option linter.unusedVariables false
theorem obj_errC {w w3 W : World} {R : Nat} {p : Nat → Prop} {st : Bool} {c : Nat} {x t : Int} {A1 A2 A : Option Addr} {n1 c1 n2 c2 n m : Nat} (hx : x ≠ 0) (hf : Fin w w3 W) (hg : w.grownBy w3 (some R)) (hr : Rd w3 R st c) (hR : R < w.heap.size) :
    ObjIsC w R p st (.error x) (.returned (.tuple #[.agg #[.int .i64 t, .slice A1 n1 c1, .slice A2 n2 c2], .slice A n m, .int .i64 x])) W :=
  ⟨hf.grown hg, t, A1, n1, c1, A2, n2, c2, A, n, m, c, rfl, hx, hf.rd hr hR⟩
theorem obj_okC {w w2 w3 W : World} {R : Nat} {p : Nat → Prop} {st : Bool} {c' : Nat} {t : Int} {v : List UInt8} {k : F} {rest : List UInt8} {Av Ak Ar : Option Addr} {cv ck cr : Nat} (hf : Fin w w3 W) (hg : w.grownBy w3 (some R)) (hr : Rd w3 R st c') (hR : R < w.heap.size) (h2 : w.heap.size < w2.heap.size)
    (hp : ∀ x, p x → oldB w R x) (hn0 : (Av = none → cv = 0) ∧ v.length ≤ cv) (hv : SeesP w3 (newB w2 w3) Av (Us v)) (hk : SeesC w3 (newB w2 w3) Ak ck k) (hrest : SeesP w3 p Ar (Us rest)) (hcr : rest.length ≤ cr) :
    ObjIsC w R p st (.ok (t, v, k, rest, c')) (.returned (.tuple #[.agg #[.int .i64 t, .slice Av v.length cv, .slice Ak k.len ck], .slice Ar rest.length cr, .int .i64 0])) W := by
  have kp : ∀ q : Addr, newB w2 w3 q.block → W.cell? q = w3.cell? q := fun q hq => hf.cell hq.2 (by have := hq.1; omega)
  have im : ∀ b, newB w2 w3 b → newB w W b := fun b hb => ⟨by have := hb.1; omega, Nat.lt_of_lt_of_le hb.2 hf.1⟩
  exact ⟨hf.grown hg, Av, cv, Ak, ck, Ar, cr, rfl, hf.rd hr hR, hn0, (hv.keep kp).imp im, (hk.keep kp).imp im, hrest.keep fun q hq => hf.cell (Nat.lt_of_lt_of_le (hp _ hq).1 hg.size) (Nat.ne_of_lt (hp _ hq).1), hcr⟩
set_option maxHeartbeats 1000000 in
theorem obj_hdr_badC (st : Bool) (d : Int) (c : Nat) (l : List UInt8) (A : Option Addr) (cap : Nat) (w : World) (R : Nat) (p : Nat → Prop) (hp : ∀ x, p x → oldB w R x) (hl : l.length ≤ 4096) (hr : Rd w R st c) (hs : SeesP w p A (Us l)) (hE : hdrE l ≠ 0) :
    Calls Tryd.prog 81 #[.pointer (some ⟨R, 0, none⟩), .slice A l.length cap, .int .i64 d] w (ObjIsC w R p st (.error (hdrE l))) := by
  have hR := lt_of_block hr
  obtain ⟨x, hx⟩ : ∃ x, x = hdrE l := ⟨_, rfl⟩
  have hH : ∀ u, Below w.heap.size w u → Calls Tryd.prog 90 #[.slice A l.length cap] u fun e w' => e = .returned (.tuple #[hdrV 0 0 0 0, .int .i64 x]) ∧ Below u.heap.size u w' := fun u hu => by
    have h := read_header A cap l u ((hs.keep fun q hq => hu.cell (hp _ hq).1).imp fun b hb => Nat.lt_of_lt_of_le (hp b hb).1 hu.size) (by omega)
    refine h.mono fun e w' hh => ⟨?_, hh.2⟩
    have h1 := hh.1
    rw [if_neg hE, ← hx] at h1
    exact h1
  unfold hdrV at hH
  have HH := Lib.hid hH
  rw [← hx] at hE ⊢
  have HX := Lib.hid (show x ≠ 0 ∧ Rd w R st c from ⟨hE, hr⟩)
  have d1 : (x != 0) = true := by simpa using hE
  have d2 : (x == 0) = false := by simpa using hE
  clear hH hx hE hs hr
  go_enter Tryd.func81, Tryd.ntmps81
  go_wp2_with fail
  refine (HH.out _ ((Below.refl _ _).alloc (Nat.le_refl _) _)).mono ?_
  rintro e w1 ⟨rfl, hb1⟩
  have b6 : w1.heap[w.heap.size]? = some (.cells #[.int .i64 0, .slice none 0 0, .slice none 0 0] 54 (0, 0)) := (hb1.block w.heap.size (by simp)).trans (heap_alloc_new w _)
  have hb := below_on ((Below.refl _ _).alloc (Nat.le_refl _) (.cells #[.int .i64 0, .slice none 0 0, .slice none 0 0] 54)) (hb1.mono (Nat.le_refl _))
  have q0 := cell_of_row w1 w.heap.size 0 _ _ _ b6
  have q1 := cell_of_row w1 w.heap.size 1 _ _ _ b6
  have q2 := cell_of_row w1 w.heap.size 2 _ _ _ b6
  have r0 := frozen_of_row w1 w.heap.size 0 _ _ b6
  have r1 := frozen_of_row w1 w.heap.size 1 _ _ b6
  have r2 := frozen_of_row w1 w.heap.size 2 _ _ b6
  simp only [List.getElem?_toArray, List.getElem?_cons_succ, List.getElem?_cons_zero] at q0 q1 q2
  have H6 := Lib.hid (show _ ∧ _ from ⟨b6, hb⟩)
  have hsz : w.heap.size < w1.heap.size := lt_of_block b6
  clear b6 hb1 hb
  go_wp2_with fail
  refine bodyPost_ret (ret_cell_tmp2 rfl _ _ _ _ _ _ _ rfl (block_alloc (block_set (block_set (block_set H6.out.1 _) _) _) _) Tryd.underlying54 rfl info_nodeS) rfl ?_
  exact obj_errC HX.out.1 ((Fin.set w w1 _ _ _).alloc _) (grown_below H6.out.2) (HX.out.2.grown H6.out.2) hR
set_option maxHeartbeats 1000000 in
theorem obj_adm_badC (st : Bool) (d : Int) (c ll : Nat) (A : Option Addr) (cap : Nat) (w : World) (R : Nat) (p : Nat → Prop) (t f n s : Nat) (x : Int) (hP : Pre w R st A ll cap d t f n s c x) (hx : x ≠ 0) :
    Calls Tryd.prog 81 #[.pointer (some ⟨R, 0, none⟩), .slice A ll cap, .int .i64 d] w (ObjIsC w R p st (.error x)) := by
  have hR := lt_of_block hP.2.2
  have HP := Lib.hid hP
  have HX := Lib.hid hx
  have d1 : (x != 0) = true := by simpa using hx
  clear hP hx
  go_enter Tryd.func81, Tryd.ntmps81
  go_wp2_with fail
  refine (HP.out.1 _ ((Below.refl _ _).alloc (Nat.le_refl _) _)).mono ?_
  rintro e w1 ⟨rfl, hb1⟩
  go_wp2_with fail
  refine (HP.out.2.1 _ (block_alloc ((hb1.block R (by simp; omega)).trans (block_alloc HP.out.2.2 _)) _)).mono ?_
  rintro e w2 ⟨rfl, hg, c', hrd, _⟩
  have H := Lib.hid (ObSt.mk' HP.out.2.2 hb1 hg hrd)
  have b6 := H.out.2.2.1
  have q0 := cell_of_row w2 w.heap.size 0 _ _ _ b6
  have q1 := cell_of_row w2 w.heap.size 1 _ _ _ b6
  have q2 := cell_of_row w2 w.heap.size 2 _ _ _ b6
  have r0 := frozen_of_row w2 w.heap.size 0 _ _ b6
  have r1 := frozen_of_row w2 w.heap.size 1 _ _ b6
  have r2 := frozen_of_row w2 w.heap.size 2 _ _ b6
  simp only [List.getElem?_toArray, List.getElem?_cons_succ, List.getElem?_cons_zero] at q0 q1 q2
  clear b6 hb1 hg hrd
  go_wp2_with fail
  refine bodyPost_ret (ret_cell_tmp2 rfl _ _ _ _ _ _ _ rfl (block_set (block_set (block_set H.out.2.2.1 _) _) _) Tryd.underlying54 rfl info_nodeS) rfl ?_
  exact obj_errC HX.out (Fin.set w w2 _ _ _) H.out.1 H.out.2.1 hR
set_option maxRecDepth 8000
set_option linter.unusedVariables false
set_option maxHeartbeats 1000000 in
theorem obj_shortC (st : Bool) (d : Int) (c ll : Nat) (b0 o0 : Nat) (cap : Nat) (w : World) (R : Nat) (p : Nat → Prop) (t f n s : Nat) (hP : Pre w R st (some ⟨b0, o0, none⟩) ll cap d t f n s c 0) (hf : f ≠ 128) (hs : s ≤ ll) (hcap : ll ≤ cap) (hll : ll ≤ 4096) (hn : ll - s < n) (hn2 : n < 4294967296) :
    Calls Tryd.prog 81 #[.pointer (some ⟨R, 0, none⟩), .slice (some ⟨b0, o0, none⟩) ll cap, .int .i64 d] w (ObjIsC w R p st (.error 6)) := by
  have hR := lt_of_block hP.2.2
  have HP := Lib.hid hP
  have d1 : ((f : Int) == 128) = false := by simp; omega
  clear hP hf
  go_enter Tryd.func81, Tryd.ntmps81
  go_wp2_with fail
  refine (HP.out.1 _ ((Below.refl _ _).alloc (Nat.le_refl _) _)).mono ?_
  rintro e w1 ⟨rfl, hb1⟩
  go_wp2_with fail
  refine (HP.out.2.1 _ (block_alloc ((hb1.block R (by simp; omega)).trans (block_alloc HP.out.2.2 _)) _)).mono ?_
  rintro e w2 ⟨rfl, hg, c', hrd, hc'⟩
  have H := Lib.hid (ObSt.mk' HP.out.2.2 hb1 hg hrd)
  have b6 := H.out.2.2.1
  have b9 := H.out.2.2.2.1
  have q0 := cell_of_row w2 w.heap.size 0 _ _ _ b6
  have q1 := cell_of_row w2 w.heap.size 1 _ _ _ b6
  have q2 := cell_of_row w2 w.heap.size 2 _ _ _ b6
  have r0 := frozen_of_row w2 w.heap.size 0 _ _ b6
  have r1 := frozen_of_row w2 w.heap.size 1 _ _ b6
  have r2 := frozen_of_row w2 w.heap.size 2 _ _ b6
  have c0 := cell_of_row w2 w1.heap.size 0 _ _ _ b9
  have c1 := cell_of_row w2 w1.heap.size 1 _ _ _ b9
  have c2 := cell_of_row w2 w1.heap.size 2 _ _ _ b9
  have c3 := cell_of_row w2 w1.heap.size 3 _ _ _ b9
  simp only [List.getElem?_toArray, List.getElem?_cons_succ, List.getElem?_cons_zero] at q0 q1 q2 c0 c1 c2 c3
  clear b6 b9 hb1 hg hrd hc'
  go_wp2_with fail
  all_goals
    refine bodyPost_ret (ret_cell_tmp2 rfl _ _ _ _ _ _ _ rfl (block_set (block_set (block_set H.out.2.2.1 _) _) _) Tryd.underlying54 rfl info_nodeS) rfl ?_
    exact obj_errC (by decide) (Fin.set w w2 _ _ _) H.out.1 H.out.2.1 hR
def MarkCC (R : Nat) (p : Nat → Prop) (st : Bool) (bs : List UInt8) (ll : Nat) (d : Int) (w2 : World) (r : Except Int (F × List UInt8 × Nat)) : Prop := ∀ (A : Option Addr) (cap : Nat), SeesP w2 p A (Us bs) → ll ≤ cap →
  Calls Tryd.prog 92 #[.pointer (some ⟨R, 0, none⟩), .slice A ll cap, .int .i64 d] w2 (MarkIsC w2 R p st r)
set_option maxHeartbeats 1000000 in
theorem obj_markC (st : Bool) (d : Int) (c ll : Nat) (b0 o0 : Nat) (cap : Nat) (w : World) (R : Nat) (p : Nat → Prop) (t f n s : Nat) (hP : Pre w R st (some ⟨b0, o0, none⟩) ll cap d t f n s c 0) (l : List UInt8) (hl : ll = l.length) (hd : 0 ≤ d ∧ d ≤ 9) (hf : f = 128) (hs : s ≤ ll) (hcap : ll ≤ cap) (hll : ll ≤ 4096) (hp : ∀ x, p x → oldB w R x) (hsee : SeesP w p (some ⟨b0, o0, none⟩) (Us l))
    (r : Except Int (F × List UInt8 × Nat)) (hM : ∀ w2, w.grownBy w2 (some R) → Rd w2 R st (c + 1) → MarkCC R p st (l.drop s) (ll - s) (d + 1) w2 r) :
    Calls Tryd.prog 81 #[.pointer (some ⟨R, 0, none⟩), .slice (some ⟨b0, o0, none⟩) ll cap, .int .i64 d] w (ObjIsC w R p st (obM t r)) := by
  have hR := lt_of_block hP.2.2
  have HP := Lib.hid hP
  have d1 : ((f : Int) == 128) = true := by simp; omega
  obtain ⟨hd1, hd2⟩ := hd
  have HM := Lib.hid hM
  have HS := Lib.hid hsee
  have HL := Lib.hid hl
  clear hP hf hM hsee hl
  go_enter Tryd.func81, Tryd.ntmps81
  go_wp2_with fail
  refine (HP.out.1 _ ((Below.refl _ _).alloc (Nat.le_refl _) _)).mono ?_
  rintro e w1 ⟨rfl, hb1⟩
  go_wp2_with fail
  refine (HP.out.2.1 _ (block_alloc ((hb1.block R (by simp; omega)).trans (block_alloc HP.out.2.2 _)) _)).mono ?_
  rintro e w2 ⟨rfl, hg, c', hrd, hc'⟩
  have H := Lib.hid (ObSt.mk' HP.out.2.2 hb1 hg hrd)
  have b6 := H.out.2.2.1
  have b9 := H.out.2.2.2.1
  have q0 := cell_of_row w2 w.heap.size 0 _ _ _ b6
  have q1 := cell_of_row w2 w.heap.size 1 _ _ _ b6
  have q2 := cell_of_row w2 w.heap.size 2 _ _ _ b6
  have r0 := frozen_of_row w2 w.heap.size 0 _ _ b6
  have r1 := frozen_of_row w2 w.heap.size 1 _ _ b6
  have r2 := frozen_of_row w2 w.heap.size 2 _ _ b6
  have c0 := cell_of_row w2 w1.heap.size 0 _ _ _ b9
  have c1 := cell_of_row w2 w1.heap.size 1 _ _ _ b9
  have c2 := cell_of_row w2 w1.heap.size 2 _ _ _ b9
  have c3 := cell_of_row w2 w1.heap.size 3 _ _ _ b9
  simp only [List.getElem?_toArray, List.getElem?_cons_succ, List.getElem?_cons_zero] at q0 q1 q2 c0 c1 c2 c3
  have hs2 := HS.out.keep fun q hq => grown_cell H.out.1 (hp _ hq).1 (hp _ hq).2
  have HM2 := Lib.hid (HM.out w2 H.out.1 (by have := hc' rfl; rw [← this]; exact hrd))
  have HS2 := Lib.hid (show SeesP w2 p (some ⟨b0, o0 + s, none⟩) (Us (l.drop s)) from sees_drop hs2 (by have := HL.out; omega))
  clear b6 b9 hb1 hg hrd hc' hs2
  go_wp2_with fail
  · refine (HM2.out _ _ (sees_empty (by have := HL.out; omega)) (by omega)).mono ?_
    rintro e w3 ⟨hg3, hres⟩
    cases r with
    | error x =>
      obtain ⟨rfl, hx, c3', hrd3⟩ := hres
      have H3 := Lib.hid (H.out.grown hg3 hrd3)
      have b6 := H3.out.2.2.1
      have b9 := H3.out.2.2.2.1
      have q0 := cell_of_row w3 w.heap.size 0 _ _ _ b6
      have q1 := cell_of_row w3 w.heap.size 1 _ _ _ b6
      have q2 := cell_of_row w3 w.heap.size 2 _ _ _ b6
      have r0 := frozen_of_row w3 w.heap.size 0 _ _ b6
      have r1 := frozen_of_row w3 w.heap.size 1 _ _ b6
      have r2 := frozen_of_row w3 w.heap.size 2 _ _ b6
      have c0 := cell_of_row w3 w1.heap.size 0 _ _ _ b9
      simp only [List.getElem?_toArray, List.getElem?_cons_succ, List.getElem?_cons_zero] at q0 q1 q2 c0
      have HX := Lib.hid hx
      clear b6 b9 hrd3 hg3 hx
      go_wp2_with fail
      refine bodyPost_ret (ret_cell_tmp2 rfl _ _ _ _ _ _ _ rfl (block_set (block_set (block_set H3.out.2.2.1 _) _) _) Tryd.underlying54 rfl info_nodeS) rfl ?_
      exact obj_errC HX.out (Fin.set w w3 _ _ _) H3.out.1 H3.out.2.1 hR
    | ok q =>
      obtain ⟨kf, rest, c3'⟩ := q
      obtain ⟨A2, n2, Ar, cr, rfl, hrd3, hkf, hrest, hcr⟩ := hres
      have H3 := Lib.hid (H.out.grown hg3 hrd3)
      have b6 := H3.out.2.2.1
      have b9 := H3.out.2.2.2.1
      have q0 := cell_of_row w3 w.heap.size 0 _ _ _ b6
      have q1 := cell_of_row w3 w.heap.size 1 _ _ _ b6
      have q2 := cell_of_row w3 w.heap.size 2 _ _ _ b6
      have r0 := frozen_of_row w3 w.heap.size 0 _ _ b6
      have r1 := frozen_of_row w3 w.heap.size 1 _ _ b6
      have r2 := frozen_of_row w3 w.heap.size 2 _ _ b6
      have c0 := cell_of_row w3 w1.heap.size 0 _ _ _ b9
      simp only [List.getElem?_toArray, List.getElem?_cons_succ, List.getElem?_cons_zero] at q0 q1 q2 c0
      have HX := Lib.hid (show SeesC w3 (newB w2 w3) A2 n2 kf ∧ SeesP w3 p Ar (Us rest) from ⟨hkf, hrest⟩)
      have h62 := lt_of_block H.out.2.2.1
      clear b6 b9 hrd3 hg3 hkf hrest
      go_wp2_with fail
      refine bodyPost_ret (ret_cell_tmp2 rfl _ _ _ _ _ _ _ rfl (block_set (block_set (block_set H3.out.2.2.1 _) _) _) Tryd.underlying54 rfl info_nodeS) rfl ?_
      exact obj_okC (Av := none) (v := []) (Fin.set w w3 _ _ _) H3.out.1 H3.out.2.1 hR h62 hp ⟨fun _ => rfl, Nat.zero_le _⟩ (.inl rfl) HX.out.1 HX.out.2 hcr
  · refine (HM2.out _ _ HS2.out (by omega)).mono ?_
    rintro e w3 ⟨hg3, hres⟩
    cases r with
    | error x =>
      obtain ⟨rfl, hx, c3', hrd3⟩ := hres
      have H3 := Lib.hid (H.out.grown hg3 hrd3)
      have b6 := H3.out.2.2.1
      have b9 := H3.out.2.2.2.1
      have q0 := cell_of_row w3 w.heap.size 0 _ _ _ b6
      have q1 := cell_of_row w3 w.heap.size 1 _ _ _ b6
      have q2 := cell_of_row w3 w.heap.size 2 _ _ _ b6
      have r0 := frozen_of_row w3 w.heap.size 0 _ _ b6
      have r1 := frozen_of_row w3 w.heap.size 1 _ _ b6
      have r2 := frozen_of_row w3 w.heap.size 2 _ _ b6
      have c0 := cell_of_row w3 w1.heap.size 0 _ _ _ b9
      simp only [List.getElem?_toArray, List.getElem?_cons_succ, List.getElem?_cons_zero] at q0 q1 q2 c0
      have HX := Lib.hid hx
      clear b6 b9 hrd3 hg3 hx
      go_wp2_with fail
      refine bodyPost_ret (ret_cell_tmp2 rfl _ _ _ _ _ _ _ rfl (block_set (block_set (block_set H3.out.2.2.1 _) _) _) Tryd.underlying54 rfl info_nodeS) rfl ?_
      exact obj_errC HX.out (Fin.set w w3 _ _ _) H3.out.1 H3.out.2.1 hR
    | ok q =>
      obtain ⟨kf, rest, c3'⟩ := q
      obtain ⟨A2, n2, Ar, cr, rfl, hrd3, hkf, hrest, hcr⟩ := hres
      have H3 := Lib.hid (H.out.grown hg3 hrd3)
      have b6 := H3.out.2.2.1
      have b9 := H3.out.2.2.2.1
      have q0 := cell_of_row w3 w.heap.size 0 _ _ _ b6
      have q1 := cell_of_row w3 w.heap.size 1 _ _ _ b6
      have q2 := cell_of_row w3 w.heap.size 2 _ _ _ b6
      have r0 := frozen_of_row w3 w.heap.size 0 _ _ b6
      have r1 := frozen_of_row w3 w.heap.size 1 _ _ b6
      have r2 := frozen_of_row w3 w.heap.size 2 _ _ b6
      have c0 := cell_of_row w3 w1.heap.size 0 _ _ _ b9
      simp only [List.getElem?_toArray, List.getElem?_cons_succ, List.getElem?_cons_zero] at q0 q1 q2 c0
      have HX := Lib.hid (show SeesC w3 (newB w2 w3) A2 n2 kf ∧ SeesP w3 p Ar (Us rest) from ⟨hkf, hrest⟩)
      have h62 := lt_of_block H.out.2.2.1
      clear b6 b9 hrd3 hg3 hkf hrest
      go_wp2_with fail
      refine bodyPost_ret (ret_cell_tmp2 rfl _ _ _ _ _ _ _ rfl (block_set (block_set (block_set H3.out.2.2.1 _) _) _) Tryd.underlying54 rfl info_nodeS) rfl ?_
      exact obj_okC (Av := none) (v := []) (Fin.set w w3 _ _ _) H3.out.1 H3.out.2.1 hR h62 hp ⟨fun _ => rfl, Nat.zero_le _⟩ (.inl rfl) HX.out.1 HX.out.2 hcr
set_option maxRecDepth 8000
set_option linter.unusedVariables false
def ListCC (R : Nat) (p : Nat → Prop) (st : Bool) (bs : List UInt8) (n : Nat) (d : Int) (w2 : World) (r : Except Int (F × Nat)) : Prop := ∀ (A : Option Addr) (cap : Nat), SeesP w2 p A (Us bs) → n ≤ cap →
  Calls Tryd.prog 54 #[.pointer (some ⟨R, 0, none⟩), .slice A n cap, .int .i64 d] w2 (ListIsC w2 R st r)
set_option maxHeartbeats 2000000 in
theorem obj_primC (st : Bool) (d : Int) (c ll : Nat) (b0 o0 : Nat) (cap : Nat) (w : World) (R : Nat) (p : Nat → Prop) (t f n s : Nat) (hP : Pre w R st (some ⟨b0, o0, none⟩) ll cap d t f n s c 0) (l : List UInt8) (hl : ll = l.length) (hf : f ≠ 128) (hs : s ≤ ll) (hcap : ll ≤ cap) (hll : ll ≤ 4096) (hn : n ≤ ll - s) (ht : t ≤ 65535) (hk : consB t = false) (hp : ∀ x, p x → oldB w R x) (hsee : SeesP w p (some ⟨b0, o0, none⟩) (Us l)) :
    Calls Tryd.prog 81 #[.pointer (some ⟨R, 0, none⟩), .slice (some ⟨b0, o0, none⟩) ll cap, .int .i64 d] w (ObjIsC w R p st (.ok ((t : Int), (l.drop s).take n, .nil, (l.drop s).drop n, c + 1))) := by
  have hR := lt_of_block hP.2.2
  have HP := Lib.hid hP
  have d1 : ((f : Int) == 128) = false := by simp; omega
  have HS := Lib.hid hsee
  have HL := Lib.hid hl
  have HK := Lib.hid (show ∀ u, Calls Tryd.prog 88 #[.int .i64 (t : Int)] u fun e w' => e = .returned (.bool false) ∧ w' = u from fun u => by have := tlv_cons (t : Int) (by omega) (by omega) u; rwa [hk] at this)
  obtain ⟨rr, hrr⟩ : ∃ rr : Except Int ObR, rr = .ok ((t : Int), (l.drop s).take n, .nil, (l.drop s).drop n, c + 1) := ⟨_, rfl⟩
  rw [← hrr]
  have HRR := Lib.hid hrr
  clear hP hf hsee hl hk hrr
  go_enter Tryd.func81, Tryd.ntmps81
  go_wp2_with fail
  refine (HP.out.1 _ ((Below.refl _ _).alloc (Nat.le_refl _) _)).mono ?_
  rintro e w1 ⟨rfl, hb1⟩
  go_wp2_with fail
  refine (HP.out.2.1 _ (block_alloc ((hb1.block R (by simp; omega)).trans (block_alloc HP.out.2.2 _)) _)).mono ?_
  rintro e w2 ⟨rfl, hg, c', hrd, hc'⟩
  have H := Lib.hid (ObSt.mk' HP.out.2.2 hb1 hg hrd)
  have b6 := H.out.2.2.1
  have b9 := H.out.2.2.2.1
  have q0 := cell_of_row w2 w.heap.size 0 _ _ _ b6
  have q1 := cell_of_row w2 w.heap.size 1 _ _ _ b6
  have q2 := cell_of_row w2 w.heap.size 2 _ _ _ b6
  have r0 := frozen_of_row w2 w.heap.size 0 _ _ b6
  have r1 := frozen_of_row w2 w.heap.size 1 _ _ b6
  have r2 := frozen_of_row w2 w.heap.size 2 _ _ b6
  have c0 := cell_of_row w2 w1.heap.size 0 _ _ _ b9
  have c1 := cell_of_row w2 w1.heap.size 1 _ _ _ b9
  have c2 := cell_of_row w2 w1.heap.size 2 _ _ _ b9
  have c3 := cell_of_row w2 w1.heap.size 3 _ _ _ b9
  simp only [List.getElem?_toArray, List.getElem?_cons_succ, List.getElem?_cons_zero] at q0 q1 q2 c0 c1 c2 c3
  have hs2 := HS.out.keep fun q hq => grown_cell H.out.1 (hp _ hq).1 (hp _ hq).2
  have hs3 := sees_drop hs2 (show s ≤ l.length by have := HL.out; omega)
  have HS2 := Lib.hid (show SeesP w2 p (some ⟨b0, o0 + s, none⟩) (Us ((l.drop s).take n)) ∧ SeesP w2 p (some ⟨b0, o0 + s + n, none⟩) (Us ((l.drop s).drop n)) from ⟨sees_take hs3, sees_drop hs3 (by rw [List.length_drop]; have := HL.out; omega)⟩)
  have HCL := Lib.hid (cloneC (p := p) (bs := (l.drop s).take n) (n := n) (w2 := w2) (by rw [List.length_take, List.length_drop]; have := HL.out; omega) (by omega) (fun x hx => Nat.lt_of_lt_of_le (hp x hx).1 H.out.1.size))
  have HC := Lib.hid (show Rd w2 R st (c + 1) by have := hc' rfl; rw [← this]; exact hrd)
  have hN6 : w.heap.size < w2.heap.size := lt_of_block b6
  have hN9 : w1.heap.size < w2.heap.size := lt_of_block b9
  have HSE := Lib.hid (show n = 0 → SeesP w2 p (some ⟨b0, o0, none⟩) (Us ((l.drop s).take n)) from fun h => .inl (by rw [h]; rfl))
  have HR := Lib.hid (show ∀ w3, Below w2.heap.size w2 w3 → SeesP w3 p (some ⟨b0, o0 + s + n, none⟩) (Us ((l.drop s).drop n)) from fun w3 hw => HS2.out.2.keep fun q hq => hw.cell (Nat.lt_of_lt_of_le (hp _ hq).1 H.out.1.size))
  have HR0 := Lib.hid (show ll - s ≤ n → ∀ (w3 : World) (A : Option Addr), SeesP w3 p A (Us ((l.drop s).drop n)) from fun hn w3 A => sees_empty (by rw [List.length_drop]; have := HL.out; omega))
  have HD := Lib.hid (show ∀ (w3 W : World) (g : Nat) (Ar : Option Addr) (cr : Nat), Fin w w3 W → Below w2.heap.size w2 w3 → ObSt w R st w1.heap.size t f n s (c + 1) w3 → SeesP w3 (newB w2 w3) (some ⟨g, 0, none⟩) (Us ((l.drop s).take n)) → SeesP w3 p Ar (Us ((l.drop s).drop n)) → ll - s - n ≤ cr →
      ObjIsC w R p st rr (.returned (.tuple #[.agg #[.int .i64 t, .slice (some ⟨g, 0, none⟩) n n, .slice none 0 0], .slice Ar (ll - s - n) cr, .int .i64 0])) W from fun w3 W g Ar cr hF hb h3 hv hr hcr => by
    have e1 : ((l.drop s).take n).length = n := by rw [List.length_take, List.length_drop]; have := HL.out; omega
    have e2 : ((l.drop s).drop n).length = ll - s - n := by rw [List.length_drop, List.length_drop]; have := HL.out; omega
    have h := obj_okC (w2 := w2) (t := (t : Int)) (Av := some ⟨g, 0, none⟩) (v := (l.drop s).take n) (cv := n) (Ak := none) (k := .nil) (ck := 0) (Ar := Ar) (rest := (l.drop s).drop n) (cr := cr) hF h3.1 h3.2.1 hR (lt_of_block H.out.2.2.1) hp ⟨fun e => (by cases e), (by rw [e1]; exact Nat.le_refl _)⟩ hv SeesC.nil_ hr (by rw [e2]; exact hcr)
    rw [e1, e2] at h
    rw [HRR.out]
    exact h)
  have hN6 : w.heap.size < w2.heap.size := lt_of_block b6
  have hN9 : w1.heap.size < w2.heap.size := lt_of_block b9
  have HSE := Lib.hid (show n = 0 → SeesP w2 p (some ⟨b0, o0, none⟩) (Us ((l.drop s).take n)) from fun h => .inl (by rw [h]; rfl))
  clear b6 b9 hb1 hg hrd hc' hs2 hs3
  go_wp2_with fail
  · have hn0 : n = 0 := by omega
    have HSE0 := Lib.hid (HSE.out hn0)
    clear HSE
    subst hn0
    go_quiet (fail)
    go_wp2_with (go_at_call 88; refine (HK.out _).mono ?_; rintro e w' ⟨rfl, rfl⟩)
    all_goals
      go_region_with (go_at_call 93; refine (HCL.out _ _ _ (by first | exact below_dn (Below.refl _ _) _ | exact (below_dn (Below.refl _ _) _).drew | exact Below.refl _ _ | exact (Below.refl _ _).drew) HSE0.out).mono ?_; rintro e w3 ⟨g, rfl, hsee, hb3⟩; have hb4 : Below w2.heap.size w2 w3 := Below.trans (by first | exact below_dn (Below.refl _ _) _ | exact (below_dn (Below.refl _ _) _).drew | exact Below.refl _ _ | exact (Below.refl _ _).drew) (hb3.mono (Nat.le_refl _)); have HV : Hid (SeesP w3 (newB w2 w3) (some ⟨g, 0, none⟩) (Us ((l.drop s).take 0))) := Lib.hid hsee; have H3 := Lib.hid (H.out.grown (grown_below hb4) (HC.out.grown hb4)); have c0 := (hb4.cell (p := ⟨w1.heap.size, 0, none⟩) hN9).trans c0; have q0 := (hb4.cell (p := ⟨w.heap.size, 0, none⟩) hN6).trans q0; have q1 := (hb4.cell (p := ⟨w.heap.size, 1, none⟩) hN6).trans q1; have q2 := (hb4.cell (p := ⟨w.heap.size, 2, none⟩) hN6).trans q2; have r0 := (hb4.frozen (p := ⟨w.heap.size, 0, none⟩) hN6).trans r0; have r1 := (hb4.frozen (p := ⟨w.heap.size, 1, none⟩) hN6).trans r1; have r2 := (hb4.frozen (p := ⟨w.heap.size, 2, none⟩) hN6).trans r2; clear hb3 hsee)
      all_goals
        go_wp2_with fail
        refine bodyPost_ret (ret_cell_tmp2 rfl _ _ _ _ _ _ _ rfl (block_set (block_set (block_set H3.out.2.2.1 _) _) _) Tryd.underlying54 rfl info_nodeS) rfl ?_
        exact HD.out w3 _ g _ _ (Fin.set w w3 _ _ _) hb4 H3.out HV.out (by first | exact HR.out _ hb4 | exact HR0.out (by omega) _ _) (by omega)
  · go_quiet (fail)
    go_wp2_with (go_at_call 88; refine (HK.out _).mono ?_; rintro e w' ⟨rfl, rfl⟩)
    all_goals
      go_region_with (go_at_call 93; refine (HCL.out _ _ _ (by first | exact below_dn (Below.refl _ _) _ | exact (below_dn (Below.refl _ _) _).drew | exact Below.refl _ _ | exact (Below.refl _ _).drew) HS2.out.1).mono ?_; rintro e w3 ⟨g, rfl, hsee, hb3⟩; have hb4 : Below w2.heap.size w2 w3 := Below.trans (by first | exact below_dn (Below.refl _ _) _ | exact (below_dn (Below.refl _ _) _).drew | exact Below.refl _ _ | exact (Below.refl _ _).drew) (hb3.mono (Nat.le_refl _)); have HV : Hid (SeesP w3 (newB w2 w3) (some ⟨g, 0, none⟩) (Us ((l.drop s).take n))) := Lib.hid hsee; have H3 := Lib.hid (H.out.grown (grown_below hb4) (HC.out.grown hb4)); have c0 := (hb4.cell (p := ⟨w1.heap.size, 0, none⟩) hN9).trans c0; have q0 := (hb4.cell (p := ⟨w.heap.size, 0, none⟩) hN6).trans q0; have q1 := (hb4.cell (p := ⟨w.heap.size, 1, none⟩) hN6).trans q1; have q2 := (hb4.cell (p := ⟨w.heap.size, 2, none⟩) hN6).trans q2; have r0 := (hb4.frozen (p := ⟨w.heap.size, 0, none⟩) hN6).trans r0; have r1 := (hb4.frozen (p := ⟨w.heap.size, 1, none⟩) hN6).trans r1; have r2 := (hb4.frozen (p := ⟨w.heap.size, 2, none⟩) hN6).trans r2; clear hb3 hsee)
      all_goals
        go_wp2_with fail
        refine bodyPost_ret (ret_cell_tmp2 rfl _ _ _ _ _ _ _ rfl (block_set (block_set (block_set H3.out.2.2.1 _) _) _) Tryd.underlying54 rfl info_nodeS) rfl ?_
        exact HD.out w3 _ g _ _ (Fin.set w w3 _ _ _) hb4 H3.out HV.out (by first | exact HR.out _ hb4 | exact HR0.out (by omega) _ _) (by omega)
set_option maxRecDepth 8000
set_option linter.unusedVariables false
set_option maxHeartbeats 2000000 in
theorem obj_consC (st : Bool) (d : Int) (c ll : Nat) (b0 o0 : Nat) (cap : Nat) (w : World) (R : Nat) (p : Nat → Prop) (t f n s : Nat) (hP : Pre w R st (some ⟨b0, o0, none⟩) ll cap d t f n s c 0) (l : List UInt8) (hl : ll = l.length) (hd : 0 ≤ d ∧ d ≤ 9) (hf : f ≠ 128) (hs : s ≤ ll) (hcap : ll ≤ cap) (hll : ll ≤ 4096) (hn : n ≤ ll - s) (ht : t ≤ 65535) (hk : consB t = true) (hp : ∀ x, p x → oldB w R x) (hsee : SeesP w p (some ⟨b0, o0, none⟩) (Us l))
    (r : Except Int (F × Nat)) (hM : ∀ w2, w.grownBy w2 (some R) → Rd w2 R st (c + 1) → ListCC R p st ((l.drop s).take n) n (d + 1) w2 r) :
    Calls Tryd.prog 81 #[.pointer (some ⟨R, 0, none⟩), .slice (some ⟨b0, o0, none⟩) ll cap, .int .i64 d] w (ObjIsC w R p st (obL t ((l.drop s).drop n) r)) := by
  have hR := lt_of_block hP.2.2
  have HP := Lib.hid hP
  have d1 : ((f : Int) == 128) = false := by simp; omega
  obtain ⟨hd1, hd2⟩ := hd
  have HM := Lib.hid hM
  have HS := Lib.hid hsee
  have HL := Lib.hid hl
  have HK := Lib.hid (show ∀ u, Calls Tryd.prog 88 #[.int .i64 (t : Int)] u fun e w' => e = .returned (.bool true) ∧ w' = u from fun u => by have := tlv_cons (t : Int) (by omega) (by omega) u; rwa [hk] at this)
  obtain ⟨rest, hrest⟩ : ∃ rest, rest = (l.drop s).drop n := ⟨_, rfl⟩
  have HRE := Lib.hid hrest
  rw [← hrest]
  clear hP hf hM hsee hl hk hrest
  go_enter Tryd.func81, Tryd.ntmps81
  go_wp2_with fail
  refine (HP.out.1 _ ((Below.refl _ _).alloc (Nat.le_refl _) _)).mono ?_
  rintro e w1 ⟨rfl, hb1⟩
  go_wp2_with fail
  refine (HP.out.2.1 _ (block_alloc ((hb1.block R (by simp; omega)).trans (block_alloc HP.out.2.2 _)) _)).mono ?_
  rintro e w2 ⟨rfl, hg, c', hrd, hc'⟩
  have H := Lib.hid (ObSt.mk' HP.out.2.2 hb1 hg hrd)
  have b6 := H.out.2.2.1
  have b9 := H.out.2.2.2.1
  have q0 := cell_of_row w2 w.heap.size 0 _ _ _ b6
  have q1 := cell_of_row w2 w.heap.size 1 _ _ _ b6
  have q2 := cell_of_row w2 w.heap.size 2 _ _ _ b6
  have r0 := frozen_of_row w2 w.heap.size 0 _ _ b6
  have r1 := frozen_of_row w2 w.heap.size 1 _ _ b6
  have r2 := frozen_of_row w2 w.heap.size 2 _ _ b6
  have c0 := cell_of_row w2 w1.heap.size 0 _ _ _ b9
  have c1 := cell_of_row w2 w1.heap.size 1 _ _ _ b9
  have c2 := cell_of_row w2 w1.heap.size 2 _ _ _ b9
  have c3 := cell_of_row w2 w1.heap.size 3 _ _ _ b9
  simp only [List.getElem?_toArray, List.getElem?_cons_succ, List.getElem?_cons_zero] at q0 q1 q2 c0 c1 c2 c3
  have hs2 := HS.out.keep fun q hq => grown_cell H.out.1 (hp _ hq).1 (hp _ hq).2
  have hs3 := sees_drop hs2 (show s ≤ l.length by have := HL.out; omega)
  have HS2 := Lib.hid (show SeesP w2 p (some ⟨b0, o0 + s, none⟩) (Us ((l.drop s).take n)) ∧ SeesP w2 p (some ⟨b0, o0 + s + n, none⟩) (Us ((l.drop s).drop n)) from ⟨sees_take hs3, sees_drop hs3 (by rw [List.length_drop]; have := HL.out; omega)⟩)
  have HLC := Lib.hid (show ∀ k, ListCC R p st ((l.drop s).take n) n (d + 1) (w2.drewN k) r from fun k => HM.out _ (H.out.drewN k).1 (by have := hc' rfl; rw [← this]; exact (H.out.drewN k).2.1))
  have HSE := Lib.hid (show n = 0 → ∀ (w2 : World) (A : Option Addr), SeesP w2 p A (Us ((l.drop s).take n)) from fun h w2 A => .inl (by rw [h]; rfl))
  have HR := Lib.hid (show ∀ w3, w.grownBy w3 (some R) → SeesP w3 p (some ⟨b0, o0 + s + n, none⟩) (Us rest) from fun w3 hw => by
    rw [HRE.out]
    exact sees_drop (sees_drop (HS.out.keep fun q hq => grown_cell hw (hp _ hq).1 (hp _ hq).2) (by have := HL.out; omega)) (by rw [List.length_drop]; have := HL.out; omega))
  have HR0 := Lib.hid (show ll - s ≤ n → ∀ (w3 : World) (A : Option Addr), SeesP w3 p A (Us rest) from fun hn w3 A => by rw [HRE.out]; exact sees_empty (by rw [List.length_drop]; have := HL.out; omega))
  have HD := Lib.hid (show ∀ (w3 W : World) (A2 : Option Addr) (n2 : Nat) (kf : F) (c3 : Nat) (Ar : Option Addr) (cr : Nat), Fin w w3 W → ObSt w R st w1.heap.size t f n s c3 w3 → SeesC w3 (newB w2 w3) A2 n2 kf → SeesP w3 p Ar (Us rest) → ll - s - n ≤ cr →
      ObjIsC w R p st (.ok ((t : Int), [], kf, rest, c3)) (.returned (.tuple #[.agg #[.int .i64 t, .slice none 0 0, .slice A2 kf.len n2], .slice Ar (ll - s - n) cr, .int .i64 0])) W from fun w3 W A2 n2 kf c3 Ar cr hF h3 hkf hr hcr => by
    have e2 : rest.length = ll - s - n := by rw [HRE.out, List.length_drop, List.length_drop]; have := HL.out; omega
    have h := obj_okC (w2 := w2) (t := (t : Int)) (Av := none) (v := []) (cv := 0) (Ak := A2) (k := kf) (ck := n2) (Ar := Ar) (rest := rest) (cr := cr) hF h3.1 h3.2.1 hR (lt_of_block H.out.2.2.1) hp ⟨fun _ => rfl, Nat.zero_le _⟩ (.inl rfl) hkf hr (by rw [e2]; exact hcr)
    rw [e2] at h
    exact h)
  clear b6 b9 hb1 hg hrd hc' hs2 hs3
  go_wp2_with fail
  · have hn0 : n = 0 := by omega
    have HSE0 := Lib.hid (HSE.out hn0)
    clear HSE
    subst hn0
    go_quiet (fail)
    go_wp2_with (go_at_call 88; refine (HK.out _).mono ?_; rintro e w' ⟨rfl, rfl⟩)
    all_goals
      refine (HLC.out nq _ _ (HSE0.out _ _) (by omega)).mono ?_
      rintro e w3 ⟨hg3, hres⟩
      cases r with
      | error x =>
        obtain ⟨rfl, hx, c3', hrd3⟩ := hres
        have H3 := Lib.hid ((H.out.drewN nq).grown hg3 hrd3)
        have b6 := H3.out.2.2.1
        have b9 := H3.out.2.2.2.1
        have q0 := cell_of_row w3 w.heap.size 0 _ _ _ b6
        have q1 := cell_of_row w3 w.heap.size 1 _ _ _ b6
        have q2 := cell_of_row w3 w.heap.size 2 _ _ _ b6
        have r0 := frozen_of_row w3 w.heap.size 0 _ _ b6
        have r1 := frozen_of_row w3 w.heap.size 1 _ _ b6
        have r2 := frozen_of_row w3 w.heap.size 2 _ _ b6
        have c0 := cell_of_row w3 w1.heap.size 0 _ _ _ b9
        simp only [List.getElem?_toArray, List.getElem?_cons_succ, List.getElem?_cons_zero] at q0 q1 q2 c0
        have HX := Lib.hid hx
        clear b6 b9 hrd3 hg3 hx
        go_wp2_with fail
        refine bodyPost_ret (ret_cell_tmp2 rfl _ _ _ _ _ _ _ rfl (block_set (block_set (block_set H3.out.2.2.1 _) _) _) Tryd.underlying54 rfl info_nodeS) rfl ?_
        exact obj_errC HX.out (Fin.set w w3 _ _ _) H3.out.1 H3.out.2.1 hR
      | ok q =>
        obtain ⟨kf, c3'⟩ := q
        obtain ⟨A2, n2, rfl, hrd3, hkf⟩ := hres
        have H3 := Lib.hid ((H.out.drewN nq).grown hg3 hrd3)
        have b6 := H3.out.2.2.1
        have b9 := H3.out.2.2.2.1
        have q0 := cell_of_row w3 w.heap.size 0 _ _ _ b6
        have q1 := cell_of_row w3 w.heap.size 1 _ _ _ b6
        have q2 := cell_of_row w3 w.heap.size 2 _ _ _ b6
        have r0 := frozen_of_row w3 w.heap.size 0 _ _ b6
        have r1 := frozen_of_row w3 w.heap.size 1 _ _ b6
        have r2 := frozen_of_row w3 w.heap.size 2 _ _ b6
        have c0 := cell_of_row w3 w1.heap.size 0 _ _ _ b9
        simp only [List.getElem?_toArray, List.getElem?_cons_succ, List.getElem?_cons_zero] at q0 q1 q2 c0
        have HX := Lib.hid (show SeesC w3 (newB w2 w3) A2 n2 kf from hkf)
        have HRW := Lib.hid (HR.out w3 (grown_trans (H.out.drewN nq).1 hg3))
        have HRW0 := Lib.hid (fun h A => HR0.out h w3 A)
        clear b6 b9 hrd3 hg3 hkf
        go_wp2_with fail
        refine bodyPost_ret (ret_cell_tmp2 rfl _ _ _ _ _ _ _ rfl (block_set (block_set (block_set H3.out.2.2.1 _) _) _) Tryd.underlying54 rfl info_nodeS) rfl ?_
        first | exact HD.out w3 _ A2 n2 kf c3' _ _ (Fin.set w w3 _ _ _) H3.out HX.out HRW.out (by omega) | exact HD.out w3 _ A2 n2 kf c3' _ _ (Fin.set w w3 _ _ _) H3.out HX.out (HRW0.out (by omega) _) (by omega)
  · go_quiet (fail)
    go_wp2_with (go_at_call 88; refine (HK.out _).mono ?_; rintro e w' ⟨rfl, rfl⟩)
    all_goals
      refine (HLC.out nq _ _ HS2.out.1 (by omega)).mono ?_
      rintro e w3 ⟨hg3, hres⟩
      cases r with
      | error x =>
        obtain ⟨rfl, hx, c3', hrd3⟩ := hres
        have H3 := Lib.hid ((H.out.drewN nq).grown hg3 hrd3)
        have b6 := H3.out.2.2.1
        have b9 := H3.out.2.2.2.1
        have q0 := cell_of_row w3 w.heap.size 0 _ _ _ b6
        have q1 := cell_of_row w3 w.heap.size 1 _ _ _ b6
        have q2 := cell_of_row w3 w.heap.size 2 _ _ _ b6
        have r0 := frozen_of_row w3 w.heap.size 0 _ _ b6
        have r1 := frozen_of_row w3 w.heap.size 1 _ _ b6
        have r2 := frozen_of_row w3 w.heap.size 2 _ _ b6
        have c0 := cell_of_row w3 w1.heap.size 0 _ _ _ b9
        simp only [List.getElem?_toArray, List.getElem?_cons_succ, List.getElem?_cons_zero] at q0 q1 q2 c0
        have HX := Lib.hid hx
        clear b6 b9 hrd3 hg3 hx
        go_wp2_with fail
        refine bodyPost_ret (ret_cell_tmp2 rfl _ _ _ _ _ _ _ rfl (block_set (block_set (block_set H3.out.2.2.1 _) _) _) Tryd.underlying54 rfl info_nodeS) rfl ?_
        exact obj_errC HX.out (Fin.set w w3 _ _ _) H3.out.1 H3.out.2.1 hR
      | ok q =>
        obtain ⟨kf, c3'⟩ := q
        obtain ⟨A2, n2, rfl, hrd3, hkf⟩ := hres
        have H3 := Lib.hid ((H.out.drewN nq).grown hg3 hrd3)
        have b6 := H3.out.2.2.1
        have b9 := H3.out.2.2.2.1
        have q0 := cell_of_row w3 w.heap.size 0 _ _ _ b6
        have q1 := cell_of_row w3 w.heap.size 1 _ _ _ b6
        have q2 := cell_of_row w3 w.heap.size 2 _ _ _ b6
        have r0 := frozen_of_row w3 w.heap.size 0 _ _ b6
        have r1 := frozen_of_row w3 w.heap.size 1 _ _ b6
        have r2 := frozen_of_row w3 w.heap.size 2 _ _ b6
        have c0 := cell_of_row w3 w1.heap.size 0 _ _ _ b9
        simp only [List.getElem?_toArray, List.getElem?_cons_succ, List.getElem?_cons_zero] at q0 q1 q2 c0
        have HX := Lib.hid (show SeesC w3 (newB w2 w3) A2 n2 kf from hkf)
        have HRW := Lib.hid (HR.out w3 (grown_trans (H.out.drewN nq).1 hg3))
        have HRW0 := Lib.hid (fun h A => HR0.out h w3 A)
        clear b6 b9 hrd3 hg3 hkf
        go_wp2_with fail
        refine bodyPost_ret (ret_cell_tmp2 rfl _ _ _ _ _ _ _ rfl (block_set (block_set (block_set H3.out.2.2.1 _) _) _) Tryd.underlying54 rfl info_nodeS) rfl ?_
        first | exact HD.out w3 _ A2 n2 kf c3' _ _ (Fin.set w w3 _ _ _) H3.out HX.out HRW.out (by omega) | exact HD.out w3 _ A2 n2 kf c3' _ _ (Fin.set w w3 _ _ _) H3.out HX.out (HRW0.out (by omega) _) (by omega)
set_option maxRecDepth 8000
set_option linter.unusedVariables false
theorem obj_allC (st : Bool) : ∀ k, k ≤ 8 → ObjAllC st k
  | 0, _ => by
    intro c l A cap w R p hp hc hl hcap hr hs
    by_cases hE : hdrE l = 0
    · have e : pObj st 0 c l = .error (admE st (tagV l) (hdrF l) (hdrN l) 9 c) := by unfold pObj; rw [if_neg (by omega)]
      rw [e]
      exact obj_adm_badC st _ c l.length A cap w R p _ _ _ _ _ (pre_of hp hl hc hr hs hE rfl rfl rfl rfl rfl) adm_nine
    · have e : pObj st 0 c l = .error (hdrE l) := by unfold pObj; rw [if_pos hE]
      rw [e]
      exact obj_hdr_badC st _ c l A cap w R p hp hl hr hs hE
  | k + 1, hk => by
    intro c l A cap w R p hp hc hl hcap hr hs
    have hO := obj_allC st k (by omega)
    have hL := rd_listC st k hO
    have hM := rd_markC st k hO
    have ed : (9 : Int) - ((k + 1 : Nat) : Int) = 8 - (k : Int) := by omega
    rw [ed]
    by_cases hE : hdrE l = 0
    · have hsz := hdr_sizes hE
      have hra := hdr_range hE
      obtain ⟨b0, o0, rfl⟩ := sees_some hs (by omega)
      have hP := pre_of (cap := cap) (d := 8 - (k : Int)) hp hl hc hr hs hE rfl rfl rfl rfl rfl
      by_cases hA : admE st (tagV l) (hdrF l) (hdrN l) (8 - (k : Int)) c = 0
      · rw [hA] at hP
        have hc1 := adm_ok hA
        have ed2 : (8 : Int) - (k : Int) + 1 = 9 - (k : Int) := by omega
        by_cases hF : hdrF l = 128
        · have e : pObj st (k + 1) c l = obM (tagV l) (loopM (pObj st k) (l.drop (hdrS l)).length (c + 1) (l.drop (hdrS l))) := by
            simp only [pObj]
            rw [if_neg (by omega), if_neg (by omega), if_pos hF]
            cases loopM (pObj st k) (l.drop (hdrS l)).length (c + 1) (l.drop (hdrS l)) with
            | error x => rfl
            | ok q => obtain ⟨f, r, c'⟩ := q; rfl
          rw [e]
          refine obj_markC st _ c l.length b0 o0 cap w R p _ _ _ _ hP l rfl (by omega) hF hsz.2 hcap hl hp hs _ ?_
          intro w2 hg hr2 A2 cap2 hs2 hc2
          have h := hM (c + 1) (l.drop (hdrS l)) A2 cap2 w2 R p (fun x hx => ⟨Nat.lt_of_lt_of_le (hp x hx).1 hg.size, (hp x hx).2⟩) hc1 (by rw [List.length_drop]; omega) (by rw [List.length_drop]; exact hc2) hr2 hs2
          rw [ed2]
          rw [List.length_drop] at h ⊢
          exact h
        · by_cases hN : (l.drop (hdrS l)).length < hdrN l
          · have e : pObj st (k + 1) c l = .error 6 := by
              simp only [pObj]
              rw [if_neg (by omega), if_neg (by omega), if_neg hF, if_pos hN]
            rw [e]
            rw [List.length_drop] at hN
            exact obj_shortC st _ c l.length b0 o0 cap w R p _ _ _ _ hP hF hsz.2 hcap hl hN hra.2.2
          · cases hK : consB (tagV l)
            · have e : pObj st (k + 1) c l = .ok (tagV l, (l.drop (hdrS l)).take (hdrN l), .nil, (l.drop (hdrS l)).drop (hdrN l), c + 1) := by
                simp only [pObj]
                rw [if_neg (by omega), if_neg (by omega), if_neg hF, if_neg hN, if_pos hK]
              rw [e]
              rw [List.length_drop] at hN
              exact obj_primC st _ c l.length b0 o0 cap w R p _ _ _ _ hP l rfl hF hsz.2 hcap hl (by omega) hra.1 hK hp hs
            · have e : pObj st (k + 1) c l = obL (tagV l) ((l.drop (hdrS l)).drop (hdrN l)) (loopL (pObj st k) (hdrN l) (c + 1) ((l.drop (hdrS l)).take (hdrN l))) := by
                simp only [pObj]
                rw [if_neg (by omega), if_neg (by omega), if_neg hF, if_neg hN, if_neg (by rw [hK]; decide)]
                cases loopL (pObj st k) (hdrN l) (c + 1) ((l.drop (hdrS l)).take (hdrN l)) with
                | error x => rfl
                | ok q => obtain ⟨f, c'⟩ := q; rfl
              rw [e]
              rw [List.length_drop] at hN
              refine obj_consC st _ c l.length b0 o0 cap w R p _ _ _ _ hP l rfl (by omega) hF hsz.2 hcap hl (by omega) hra.1 hK hp hs _ ?_
              intro w2 hg hr2 A2 cap2 hs2 hc2
              have el : ((l.drop (hdrS l)).take (hdrN l)).length = hdrN l := by rw [List.length_take, List.length_drop]; omega
              have h := hL (c + 1) ((l.drop (hdrS l)).take (hdrN l)) A2 cap2 w2 R hc1 (by omega) (by omega) hr2 (hs2.imp fun x hx => ⟨Nat.lt_of_lt_of_le (hp x hx).1 hg.size, (hp x hx).2⟩)
              rw [ed2]
              rw [el] at h
              exact h
      · have e : pObj st (k + 1) c l = .error (admE st (tagV l) (hdrF l) (hdrN l) (8 - (k : Int)) c) := by
          simp only [pObj]
          rw [if_neg (by omega), if_pos hA]
        rw [e]
        exact obj_adm_badC st _ c l.length _ cap w R p _ _ _ _ _ hP hA
    · have e : pObj st (k + 1) c l = .error (hdrE l) := by simp only [pObj]; rw [if_pos hE]
      rw [e]
      exact obj_hdr_badC st _ c l A cap w R p hp hl hr hs hE
def ParIsC (w : World) (r : Except Int (F × Nat)) (e : Ending) (w' : World) : Prop :=
  Below w.heap.size w w' ∧ match r with
  | .error x => e = .returned (.tuple #[.slice none 0 0, .int .i64 x]) ∧ x ≠ 0
  | .ok (f, _) => ∃ A c, e = .returned (.tuple #[.slice A f.len c, .int .i64 0]) ∧ SeesC w' (newB w w') A c f
theorem par_ofC {w : World} {st : Bool} {r : Except Int (F × Nat)} {e : Ending} {w' : World} (h : ListIsC (w.alloc (.cells #[.bool st, .int .i64 0] 81)) w.heap.size st r e w') : ParIsC w r e w' := by
  obtain ⟨hg, hr⟩ := h
  have hs := hg.size
  simp only [World.size_alloc] at hs
  have hb : Below w.heap.size w w' := by
    refine ⟨hg.os, hg.tape, hg.output, by omega, fun k hk => ?_⟩
    exact (hg.block k (by simp; omega) (by intro e; injection e with e; omega)).trans (Below.heap_alloc w _ k hk)
  refine ⟨hb, ?_⟩
  cases r with
  | error x => exact ⟨hr.1, hr.2.1⟩
  | ok q =>
    obtain ⟨f, c'⟩ := q
    obtain ⟨A, c, he, _, hk⟩ := hr
    exact ⟨A, c, he, hk.imp fun b hb => ⟨by have := hb.1; simp only [World.size_alloc] at this; omega, hb.2⟩⟩
theorem tlv_parseC (st : Bool) (l : List UInt8) (A : Option Addr) (cap : Nat) (w : World) (hl : l.length ≤ 140737488351232) (hcap : l.length ≤ cap) (hs : SeesP w (· < w.heap.size) A (Us l)) :
    Calls Tryd.prog 32 #[.slice A l.length cap, .bool st] w (ParIsC w (parse st l)) := by
  by_cases h : 4096 < l.length
  · have e : parse st l = .error 2 := by unfold parse; rw [if_pos h]
    rw [e]
    have d : decide ((4096 : Int) < (l.length : Int)) = true := by simp; omega
    clear h hs e
    go_enter Tryd.func32, Tryd.ntmps32
    go_wp2_with fail
    go_ret2
    exact ⟨Below.refl _ _, rfl, by decide⟩
  · have e : parse st l = loopL (pObj st 8) l.length 0 l := by unfold parse; rw [if_neg h]
    rw [e]
    have d : decide ((4096 : Int) < (l.length : Int)) = false := by simp; omega
    have hL := rd_listC st 8 (obj_allC st 8 (Nat.le_refl _)) 0 l A cap (w.alloc (.cells #[.bool st, .int .i64 0] 81)) w.heap.size (by omega) (by omega) hcap (heap_alloc_new w _)
      ((hs.keep fun q hq => World.cell?_alloc_lt w _ q hq).imp fun x hx => ⟨by simp; omega, by omega⟩)
    obtain ⟨r, hr⟩ : ∃ r, r = loopL (pObj st 8) l.length 0 l := ⟨_, rfl⟩
    rw [← hr] at hL ⊢
    have HL := Lib.hid (show Calls Tryd.prog 54 #[.pointer (some ⟨w.heap.size, 0, none⟩), .slice A l.length cap, .int .i64 1] _ _ from hL.mono fun e w' h => par_ofC h)
    clear hL h hs e hr
    go_enter Tryd.func32, Tryd.ntmps32
    go_wp2_with fail
    refine HL.out.mono ?_
    rintro e w1 ⟨hb, hres⟩
    cases r with
    | error x =>
      obtain ⟨rfl, hx⟩ := hres
      have HX := Lib.hid (show _ ∧ _ from ⟨hb, hx⟩)
      clear hb hx
      go_wp2_with fail
      go_ret2
      exact ⟨HX.out.1, rfl, HX.out.2⟩
    | ok q =>
      obtain ⟨f, c'⟩ := q
      obtain ⟨A2, c2, rfl, hk⟩ := hres
      have HX := Lib.hid (show _ ∧ _ from ⟨hb, hk⟩)
      clear hb hk
      go_wp2_with fail
      go_ret2
      exact ⟨HX.out.1, A2, c2, rfl, HX.out.2⟩
end Go.Proofs.YtcapbojjceeapaaDoor
