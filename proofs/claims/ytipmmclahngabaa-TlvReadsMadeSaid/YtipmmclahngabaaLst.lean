/-
  What is proved here: what the program's list returns, where object returns what it should, for bytes that lie in memory.
-/
import Derived.Test.YtipmmclahngabaaRows
import Derived.Test.YtipmmclahngabaaKit
import Derived.Test.YtipmmclahngabaaPar
namespace Go.Proofs.Ytipmmclahngabaa
open Go.RowKit

theorem info_node : (Try.prog.info? 32).map (fun i => (i.zero, i.size, i.bytes)) = some (some (.agg #[.int .i64 0, .slice none 0 0, .slice none 0 0]), 3, 56) := by kernel_rfl

/-- the row v (of objects) holds the objects f; what they point to lies in blocks since w, not in the row's own -/
def Held (w wr : World) (v : Value) (f : F) : Prop := ∃ cs, wr.ownsRow w.heap.size 32 3 v f.len cs ∧ HoldsP wr (fun b => newB w wr b ∧ v.ownBlock ≠ some b) f cs
theorem Held.start (w wr : World) : Held w wr (.slice none 0 0) .nil := ⟨[], ⟨rfl, .inl ⟨rfl, rfl⟩⟩, rfl⟩
theorem own_size3 {w : World} {base : Nat} {e : TypeId} {v : Value} {n : Nat} {xs : List Value} (h : w.ownsRow base e 3 v n xs) : v.ownBlock = none ∨ ∃ g, v.ownBlock = some g ∧ base ≤ g ∧ g < w.heap.size := by
  rcases h.2 with ⟨rfl, _⟩ | ⟨g, cap, cur, rfl, hb, hh, _⟩
  · left; rfl
  · right; exact ⟨g, rfl, hb, lt_of_block hh⟩
theorem Held.grown {w wr w' : World} {R : Nat} {v : Value} {f : F} (h : Held w wr v f) (hR : R < w.heap.size) (hg : wr.grownBy w' (some R)) : Held w w' v f := by
  obtain ⟨cs, h1, h2⟩ := h
  refine ⟨cs, own_far h1 hg ?_, ?_⟩
  · rcases own_size3 h1 with e | ⟨g, e, hb, _⟩
    · rw [e]; simp
    · rw [e]; intro h; injection h with h; omega
  · refine HoldsP.imp (fun _ hb => ⟨⟨hb.1.1, Nat.lt_of_lt_of_le hb.1.2 hg.size⟩, hb.2⟩) (HoldsP.keep (fun _ hq => grown_cell hg hq.1.2 (by have := hq.1.1; omega)) h2)
theorem Held.slice {w wr : World} {v : Value} {f : F} (h : Held w wr v f) : ∃ A c, v = .slice A f.len c ∧ SeesF wr (newB w wr) A f := by
  obtain ⟨cs, h1, h2⟩ := h
  rcases h1.2 with ⟨rfl, h0⟩ | ⟨g, cap, cur, rfl, hb, hh, hn, hm, hs, ht⟩
  · have : f = .nil := F.len_zero h0
    subst this
    exact ⟨none, 0, rfl, SeesF.nil_⟩
  · refine ⟨_, cap, rfl, cs, .inr ⟨g, 0, rfl, ⟨hb, lt_of_block hh⟩, fun j hj => ?_⟩, HoldsP.imp (fun _ hb => hb.1) h2⟩
    have hl := h1.1
    rw [Nat.zero_add, cell_of_row wr g j cur _ (0, 0) hh, ← ht, List.getElem?_take, if_pos (by omega), Array.getElem?_toList]
theorem Held.carry {w wr w' : World} {R : Nat} {v : Value} {f : F} {cs : List Value} (hR : R < w.heap.size) (hg : wr.grownBy w' (some R)) (h1 : wr.ownsRow w.heap.size 32 3 v f.len cs) (h2 : HoldsP wr (fun b => newB w wr b ∧ v.ownBlock ≠ some b) f cs) :
    w'.ownsRow w.heap.size 32 3 v f.len cs ∧ HoldsP w' (fun b => newB w wr b ∧ v.ownBlock ≠ some b) f cs := by
  refine ⟨own_far h1 hg ?_, HoldsP.keep (fun _ hq => grown_cell hg hq.1.2 (by have := hq.1.1; omega)) h2⟩
  rcases own_size3 h1 with e | ⟨g, e, hb, _⟩
  · rw [e]; simp
  · rw [e]; intro h; injection h with h; omega
/-- one object more -/
theorem Held.snoc {w wr w1 wa w2 : World} {v : Value} {f : F} {t : Int} {x : List UInt8} {k : F} {Av Ak : Option Addr} {cv ck g cap : Nat} (h01 : wr.heap.size ≤ w1.heap.size) (ha : Below w1.heap.size w1 wa)
    (hn0 : Av = none → cv = 0) (hv : SeesP w1 (newB wr w1) Av (Us x)) (hk : SeesF w1 (newB wr w1) Ak k) (hww : w.heap.size ≤ wr.heap.size)
    (hold : v.ownBlock = none ∨ ∃ g, v.ownBlock = some g ∧ w.heap.size ≤ g ∧ g < wr.heap.size) (cs : List Value) (hc2 : HoldsP w1 (fun b => newB w wr b ∧ v.ownBlock ≠ some b) f cs)
    (ho : w2.ownsRow w.heap.size 32 3 (.slice (some ⟨g, 0, none⟩) (f.len + 1) cap) (f.len + 1) (cs ++ [.int .i64 t, .slice Av x.length cv, .slice Ak k.len ck])) (hg : wa.grownBy w2 v.ownBlock)
    (hl : v.ownBlock = some g ∨ g = wa.heap.size) : Held w w2 (.slice (some ⟨g, 0, none⟩) (f.len + 1) cap) (f.app (.cons t x k .nil)) := by
  have keep : ∀ q : Addr, q.block < w1.heap.size → v.ownBlock ≠ some q.block → w2.cell? q = w1.cell? q := fun q h1 h2 =>
    (World.cell?_of_block (w := wa) (hg.block q.block (Nat.lt_of_lt_of_le h1 ha.size) (fun e => h2 e.symm))).trans (ha.cell h1)
  have hsz : w1.heap.size ≤ w2.heap.size := Nat.le_trans ha.size hg.size
  have hwa := ha.size
  refine ⟨_, by rw [F.len_app]; exact ho, HoldsP.app ?_ ?_⟩
  · refine HoldsP.imp ?_ (HoldsP.keep (w' := w2) (fun q hq => keep q (Nat.lt_of_lt_of_le hq.1.2 h01) hq.2) hc2)
    intro b hb
    have h4 := hb.1.2
    refine ⟨⟨hb.1.1, by omega⟩, ?_⟩
    intro e
    injection e with e
    simp only at e
    rcases hl with h3 | h3
    · exact hb.2 (h3.trans (by rw [e]))
    · omega
  · have hp : ∀ b, newB wr w1 b → newB w w2 b ∧ (Value.slice (some ⟨g, 0, none⟩) (f.len + 1) cap).ownBlock ≠ some b := by
      intro b hb
      have h5 := hb.1
      have h6 := hb.2
      refine ⟨⟨by omega, by omega⟩, ?_⟩
      intro e
      injection e with e
      simp only at e
      rcases hl with h3 | h3
      · rcases hold with h4 | ⟨g2, h4, _, h7⟩
        · rw [h4] at h3; cases h3
        · rw [h4] at h3; injection h3 with h3; omega
      · omega
    have kp : ∀ q : Addr, newB wr w1 q.block → w2.cell? q = w1.cell? q := by
      intro q hq
      refine keep q hq.2 ?_
      have h5 := hq.1
      rcases hold with h4 | ⟨g2, h4, _, h7⟩
      · rw [h4]; simp
      · rw [h4]; intro e; injection e with e; omega
    obtain ⟨ks, hk1, hk2⟩ := hk
    exact ⟨Av, cv, Ak, ck, ks, [], rfl, hn0, (hv.keep kp).imp hp, (hk1.keep kp).imp hp, HoldsP.imp hp (HoldsP.keep kp hk2), rfl⟩

def joinL (acc : F) : Except Int (F × Nat) → Except Int (F × Nat)
  | .error e => .error e
  | .ok (f, c) => .ok (acc.app f, c)
theorem loopL_err {ob : Nat → List UInt8 → Except Int ObR} {m c : Nat} {l : List UInt8} (hl : l ≠ []) {x : Int} (h : ob c l = .error x) : loopL ob (m + 1) c l = .error x := by
  cases l with
  | nil => exact absurd rfl hl
  | cons a l => simp only [loopL, h]
theorem loopL_ok {ob : Nat → List UInt8 → Except Int ObR} {m c : Nat} {l : List UInt8} (hl : l ≠ []) {t : Int} {v : List UInt8} {k : F} {rest : List UInt8} {c' : Nat} (h : ob c l = .ok (t, v, k, rest, c')) :
    loopL ob (m + 1) c l = joinL (.cons t v k .nil) (loopL ob m c' rest) := by
  cases l with
  | nil => exact absurd rfl hl
  | cons a l =>
    simp only [loopL, h]
    cases loopL ob m c' rest with
    | error e => rfl
    | ok q2 => obtain ⟨f, c2⟩ := q2; rfl
theorem joinL_join (a b : F) (r : Except Int (F × Nat)) : joinL a (joinL b r) = joinL (a.app b) r := by
  cases r with
  | error e => rfl
  | ok q => obtain ⟨f, c⟩ := q; simp only [joinL]; rw [F.app_assoc]
theorem joinL_nil (r : Except Int (F × Nat)) : joinL .nil r = r := by
  cases r with
  | error e => rfl
  | ok q => obtain ⟨f, c⟩ := q; rfl
theorem loopL_end (ob : Nat → List UInt8 → Except Int ObR) (m c : Nat) : loopL ob m c [] = .ok (.nil, c) := by cases m <;> rfl
def lenOf : Value → Nat
  | .slice _ n _ => n
  | _ => 0

/-- what list's loop keeps -/
def LstRel (w : World) (R : Nat) (st : Bool) (ob : Nat → List UInt8 → Except Int ObR) (res : Except Int (F × Nat)) (v : Value) (acc : F) (A : Option Addr) (b : List UInt8) (m c : Nat) (wr : World) : Prop :=
  Held w wr v acc ∧ SeesP wr (oldB w R) A (Us b) ∧ Rd wr R st c ∧ c ≤ 256 ∧ w.grownBy wr (some R) ∧ b.length ≤ m ∧ joinL acc (loopL ob m c b) = res

theorem node_cells (t : Int) (Av : Option Addr) (lv cv : Nat) (Ak : Option Addr) (lk ck : Nat) : ∀ u ∈ [Value.int .i64 t, .slice Av lv cv, .slice Ak lk ck], u.oneCell' = true := by
  intro u hu
  simp only [List.mem_cons, List.not_mem_nil, or_false] at hu
  rcases hu with rfl | rfl | rfl <;> rfl

set_option maxHeartbeats 1000000 in
theorem rd_list (st : Bool) (k : Nat) (hO : ObjAll st k) : ListAll st k := by
  intro c l A cap w R hc hl hcap hr hs
  obtain ⟨i0, hi, hz0, hz1, hz2⟩ := info_parts info_node
  have hR := lt_of_block hr
  have HO := Lib.hid hO
  have H0 := Lib.hid (show LstRel w R st (pObj st k) (loopL (pObj st k) l.length c l) (.slice none 0 0) .nil A l l.length c w from ⟨Held.start w w, hs, hr, hc, World.grownBy.refl _ _, Nat.le_refl _, joinL_nil _⟩)
  clear hr hs hO
  go_enter Try.func49, Try.ntmps49
  go_wp2_with fail
  go_loopw [8, 1] (fun v q wr => ∃ (acc : F) (Ab : Option Addr) (cb : Nat) (b : List UInt8) (m cN : Nat), q = .slice Ab b.length cb ∧ acc.len + b.length ≤ 4096 ∧ b.length ≤ cb ∧ Hid (LstRel w R st (pObj st k) (loopL (pObj st k) l.length c l) v acc Ab b m cN wr)) (fun _ q _ => lenOf q)
  case atStart => exact ⟨.nil, A, cap, l, l.length, c, rfl, by simp only [F.len]; omega, hcap, H0⟩
  case round =>
    clear H0
    obtain ⟨acc, Ab, cb, b, m, cN, rfl, hlen, hcb, HL⟩ := hrel
    cases b with
    | nil =>
      obtain ⟨h1, _, h3, _, h5, _, h7⟩ := HL.out
      obtain ⟨A2, c2, hv, hs2⟩ := h1.slice
      subst hv
      have hd : ListIs w R st (loopL (pObj st k) l.length c l) (.returned (.tuple #[.slice A2 acc.len c2, .int .i64 0])) wr := by
        rw [← h7, loopL_end]
        refine ⟨h5, A2, c2, ?_, h3, ?_⟩
        · rw [F.app_nil]
        · rw [F.app_nil]; exact hs2
      have HD := Lib.hid hd
      clear hd h1 h3 h5 h7 hs2 HL
      go_wp2_with fail
      go_ret2
      exact HD.out
    | cons a b =>
      have d0 : decide ((0 : Int) < ((a :: b).length : Int)) = true := by simp
      obtain ⟨B, hB⟩ : ∃ B, B = a :: b := ⟨_, rfl⟩
      have hB0 : 0 < B.length := by rw [hB]; simp
      rw [← hB] at HL hlen d0 hcb ⊢
      have HB := Lib.hid (show B ≠ [] by rw [hB]; simp)
      clear hB
      have hc2 := HO.out cN B Ab cb wr R (oldB w R) (fun x hx => ⟨Nat.lt_of_lt_of_le hx.1 HL.out.2.2.2.2.1.size, hx.2⟩) HL.out.2.2.2.1 (by omega) hcb HL.out.2.2.1 HL.out.2.1
      go_wp2_with fail
      refine hc2.mono ?_
      rintro e w1 ⟨hg, hres⟩
      obtain ⟨m', rfl⟩ : ∃ m', m = m' + 1 := ⟨m - 1, by have := HL.out.2.2.2.2.2.1; omega⟩
      obtain ⟨r, hr⟩ : ∃ r, pObj st k cN B = r := ⟨_, rfl⟩
      rw [hr] at hres
      have HJ := Lib.hid HL.out.2.2.2.2.2.2
      have HG := Lib.hid (grown_trans HL.out.2.2.2.2.1 hg)
      have HH := Lib.hid (HL.out.1.grown hR hg)
      cases r with
      | error x =>
        obtain ⟨t, A1, n1, c1, A2, n2, c2, A3, n3, m3, c', rfl, hx, hrd⟩ := hres
        have hstep := loopL_err (m := m') HB.out hr
        have hd : ∀ o, ListIs w R st (loopL (pObj st k) l.length c l) (.returned (.tuple #[.slice none 0 0, .int .i64 x])) (w1.alloc o) := fun o => by
          rw [← HJ.out, hstep]
          exact ⟨grown_trans HG.out (grown_alloc _ o _), rfl, hx, c', block_alloc hrd o⟩
        have HD := Lib.hid hd
        have d1 : (x != 0) = true := by simpa using hx
        clear hd hx hrd hstep HJ hr HH HL hg hc2
        go_wp2_with fail
        go_ret2
        exact HD.out _
      | ok q =>
        obtain ⟨t, v, kf, rest, c'⟩ := q
        obtain ⟨Av, cv, Ak, ck, Ar, cr, rfl, hrd, hn0, hv, hkf, hrest, hcr⟩ := hres
        have hstep := loopL_ok (m := m') HB.out hr
        have hrl := pObj_rest st k cN B t v kf rest c' hr
        obtain ⟨cs, hown0, hh0⟩ := HL.out.1
        obtain ⟨hown, hh⟩ := Held.carry hR hg hown0 hh0
        have HW := Lib.hid (own_size3 hown0)
        have HN := Lib.hid (show Rd w1 R st c' ∧ (Av = none → cv = 0) ∧ SeesP w1 (newB wr w1) Av (Us v) ∧ SeesF w1 (newB wr w1) Ak kf ∧ SeesP w1 (oldB w R) Ar (Us rest) ∧ c' ≤ 256 from ⟨hrd, hn0, hv, hkf, hrest, hrl.2⟩)
        have hrl2 := hrl.1
        have HHH := Lib.hid hh
        have HST := Lib.hid hstep
        clear hrd hn0 hv hkf hrest hstep hr hh hrl hc2 hown0 hh0
        go_wp2_with (at_builtin; refine wpList_append_lies _ rfl (.tmp 26) (.tmp 28) 24 rfl w.heap.size 32 i0 _ 3 56 Try.underlying24 hi hz0 hz1 hz2 rfl (by decide) u8 acc.len cs rfl ((hown.alloc _).alloc _) ⟨_, 0, none⟩ 1 1 _ rfl rfl (World.news_of_block (block_next w1 _ _)) (node_cells _ _ _ _ _ _ _) (by decide) (by unfold maxLen; omega) (by omega) (by have := HG.out.size; simp; omega) _ rfl ?_; intro g cap2 w2 ho hg2 hl2 _)
        have hb2 : Below w1.heap.size w1 _ := ((Below.refl w1.heap.size w1).alloc (Nat.le_refl _) (.cells #[.int .i64 t, .slice Av v.length cv, .slice Ak kf.len ck] 32)).alloc (by simp) (.cells #[.int .i64 t, .slice Av v.length cv, .slice Ak kf.len ck] 32)
        have hsn := Held.snoc hg.size hb2 HN.out.2.1 HN.out.2.2.1 HN.out.2.2.2.1 HL.out.2.2.2.2.1.size HW.out cs HHH.out ho hg2 hl2
        have hrow : Rd w2 R st c' := by
          have h1 : Rd _ R st c' := block_alloc (block_alloc HN.out.1 (.cells #[.int .i64 t, .slice Av v.length cv, .slice Ak kf.len ck] 32)) (.cells #[.int .i64 t, .slice Av v.length cv, .slice Ak kf.len ck] 32)
          refine (hg2.block R (lt_of_block h1) ?_).trans h1
          rcases HW.out with h4 | ⟨g2, h4, h5, _⟩
          · rw [h4]; simp
          · rw [h4]; intro e; injection e with e; omega
        have hgw : w.grownBy w2 (some R) := by
          have h1 := HG.out
          refine ⟨hg2.os.trans (hb2.os.trans h1.os), hg2.tape.trans (hb2.tape.trans h1.tape), hg2.output.trans (hb2.output.trans h1.output), Nat.le_trans h1.size (Nat.le_trans hb2.size hg2.size), fun j hj hj2 => ?_⟩
          refine (hg2.block j (Nat.lt_of_lt_of_le hj (Nat.le_trans h1.size hb2.size)) ?_).trans ((hb2.block j (Nat.lt_of_lt_of_le hj h1.size)).trans (h1.block j hj hj2))
          rcases HW.out with h4 | ⟨g2, h4, h5, _⟩
          · rw [h4]; simp
          · rw [h4]; intro e; injection e with e; omega
        have hbytes : SeesP w2 (oldB w R) Ar (Us rest) := by
          refine HN.out.2.2.2.2.1.keep fun q hq => ?_
          have h6 : q.block < w1.heap.size := Nat.lt_of_lt_of_le hq.1 HG.out.size
          refine (World.cell?_of_block (hg2.block q.block (Nat.lt_of_lt_of_le h6 hb2.size) ?_)).trans (hb2.cell h6)
          have h7 := hq.1
          rcases HW.out with h4 | ⟨g2, h4, h5, _⟩
          · rw [h4]; simp
          · rw [h4]; intro e; injection e with e; omega
        have HF := Lib.hid (show LstRel w R st (pObj st k) (loopL (pObj st k) l.length c l) _ _ Ar rest m' c' w2 from ⟨hsn, hbytes, hrow, HN.out.2.2.2.2.2, hgw, by have := HL.out.2.2.2.2.2.1; omega, by rw [← HJ.out, HST.out, joinL_join]⟩)
        clear hb2 hsn hrow hgw hbytes ho hg2 hl2
        go_roundw
        case rel => exact ⟨_, Ar, cr, rest, m', c', rfl, by rw [F.len_app]; simp only [F.len]; omega, hcr, HF⟩
        case measure => simp only [lenOf]; omega

end Go.Proofs.Ytipmmclahngabaa
