/-
  What is proved here: what the program's listToMark returns, where object returns what it should, for bytes that lie in memory.
-/
import Derived.Test.YtipmmclahngabaaRows
import Derived.Test.YtipmmclahngabaaKit
import Derived.Test.YtipmmclahngabaaLst
namespace Go.Proofs.Ytipmmclahngabaa
open Go.RowKit

def joinM (acc : F) : Except Int (F × List UInt8 × Nat) → Except Int (F × List UInt8 × Nat)
  | .error e => .error e
  | .ok (f, r, c) => .ok (acc.app f, r, c)
theorem loopM_short {ob : Nat → List UInt8 → Except Int ObR} {m c : Nat} {l : List UInt8} (h : l.length < 2) {acc : F} : joinM acc (loopM ob m c l) = .error 6 := by
  cases m with
  | zero => rfl
  | succ m => simp only [loopM]; rw [if_pos h]; rfl
theorem loopM_end {ob : Nat → List UInt8 → Except Int ObR} {m c : Nat} {l : List UInt8} (h : 2 ≤ l.length) (h2 : l.take 2 = [0, 0]) : loopM ob (m + 1) c l = .ok (.nil, l.drop 2, c) := by
  simp only [loopM]; rw [if_neg (by omega), if_pos h2]
theorem loopM_err {ob : Nat → List UInt8 → Except Int ObR} {m c : Nat} {l : List UInt8} (h : 2 ≤ l.length) (h2 : l.take 2 ≠ [0, 0]) {x : Int} (hx : ob c l = .error x) : loopM ob (m + 1) c l = .error x := by
  simp only [loopM]; rw [if_neg (by omega), if_neg h2, hx]
theorem loopM_ok {ob : Nat → List UInt8 → Except Int ObR} {m c : Nat} {l : List UInt8} (h : 2 ≤ l.length) (h2 : l.take 2 ≠ [0, 0]) {t : Int} {v : List UInt8} {k : F} {rest : List UInt8} {c' : Nat} (hx : ob c l = .ok (t, v, k, rest, c')) :
    loopM ob (m + 1) c l = joinM (.cons t v k .nil) (loopM ob m c' rest) := by
  simp only [loopM]; rw [if_neg (by omega), if_neg h2, hx]
  simp only
  cases loopM ob m c' rest with
  | error e => rfl
  | ok q2 => obtain ⟨f, r, c2⟩ := q2; rfl
theorem joinM_join (a b : F) (r : Except Int (F × List UInt8 × Nat)) : joinM a (joinM b r) = joinM (a.app b) r := by
  cases r with
  | error e => rfl
  | ok q => obtain ⟨f, r, c⟩ := q; simp only [joinM]; rw [F.app_assoc]
theorem joinM_nil (r : Except Int (F × List UInt8 × Nat)) : joinM .nil r = r := by
  cases r with
  | error e => rfl
  | ok q => obtain ⟨f, r, c⟩ := q; rfl
theorem take_two {l : List UInt8} (h : 2 ≤ l.length) : (l.take 2 = [0, 0]) ↔ ((l[0]'(by omega)).toNat = 0 ∧ (l[1]'(by omega)).toNat = 0) := by
  match l, h with
  | a :: b :: r, _ =>
    simp only [List.take_succ_cons, List.take_zero, List.getElem_cons_zero, List.getElem_cons_succ, List.cons.injEq, and_true]
    constructor
    · rintro ⟨rfl, rfl⟩; exact ⟨rfl, rfl⟩
    · rintro ⟨h1, h2⟩; exact ⟨UInt8.toNat_inj.1 h1, UInt8.toNat_inj.1 h2⟩

theorem sees_empty {w : World} {p : Nat → Prop} {A : Option Addr} {l : List UInt8} {k : Nat} (h : l.length ≤ k) : SeesP w p A (Us (l.drop k)) := .inl (by rw [List.drop_eq_nil_of_le h]; rfl)
theorem sees_drop {w : World} {p : Nat → Prop} {b o : Nat} {l : List UInt8} {k : Nat} (h : SeesP w p (some ⟨b, o, none⟩) (Us l)) (hk : k ≤ l.length) : SeesP w p (some ⟨b, o + k, none⟩) (Us (l.drop k)) := by
  rcases h with h | ⟨b2, o2, e, hp, hc⟩
  · have : l = [] := by simpa [Us] using h
    subst this
    exact .inl (by simp [Us])
  · injection e with e
    injection e with e1 e2
    subst e1 e2
    refine .inr ⟨b, o + k, rfl, hp, fun j hj => ?_⟩
    rw [Us_drop, List.length_drop] at hj
    rw [Nat.add_assoc, hc _ (by omega), Us_drop, List.getElem?_drop]
theorem sees_take {w : World} {p : Nat → Prop} {A : Option Addr} {l : List UInt8} {k : Nat} (h : SeesP w p A (Us l)) : SeesP w p A (Us (l.take k)) := by
  rcases h with h | ⟨b, o, e, hp, hc⟩
  · have : l = [] := by simpa [Us] using h
    subst this
    exact .inl (by simp [Us])
  · refine .inr ⟨b, o, e, hp, fun j hj => ?_⟩
    rw [Us_take, List.length_take] at hj
    rw [hc j (by omega), Us_take, List.getElem?_take, if_pos (by omega)]

/-- what listToMark's loop keeps -/
def MrkRel (w : World) (R : Nat) (p : Nat → Prop) (st : Bool) (ob : Nat → List UInt8 → Except Int ObR) (res : Except Int (F × List UInt8 × Nat)) (v : Value) (acc : F) (A : Option Addr) (b : List UInt8) (m c : Nat) (wr : World) : Prop :=
  Held w wr v acc ∧ SeesP wr p A (Us b) ∧ Rd wr R st c ∧ c ≤ 256 ∧ w.grownBy wr (some R) ∧ b.length ≤ m ∧ joinM acc (loopM ob m c b) = res

set_option maxHeartbeats 1000000 in
theorem rd_mark (st : Bool) (k : Nat) (hO : ObjAll st k) : MarkAll st k := by
  intro c l A cap w R p hp hc hl hcap hr hs
  obtain ⟨i0, hi, hz0, hz1, hz2⟩ := info_parts info_node
  have hR := lt_of_block hr
  have HO := Lib.hid hO
  have H0 := Lib.hid (show MrkRel w R p st (pObj st k) (loopM (pObj st k) l.length c l) (.slice none 0 0) .nil A l l.length c w from ⟨Held.start w w, hs, hr, hc, World.grownBy.refl _ _, Nat.le_refl _, joinM_nil _⟩)
  clear hr hs hO
  go_enter Try.func67, Try.ntmps67
  go_wp2_with fail
  go_loopw [9, 1] (fun v q wr => ∃ (acc : F) (Ab : Option Addr) (cb : Nat) (b : List UInt8) (m cN : Nat), q = .slice Ab b.length cb ∧ acc.len + b.length ≤ 4096 ∧ b.length ≤ cb ∧ Hid (MrkRel w R p st (pObj st k) (loopM (pObj st k) l.length c l) v acc Ab b m cN wr)) (fun _ q _ => lenOf q)
  case atStart => exact ⟨.nil, A, cap, l, l.length, c, rfl, by simp only [F.len]; omega, hcap, H0⟩
  case round =>
    clear H0
    obtain ⟨acc, Ab, cb, b, m, cN, rfl, hlen, hcb, HL⟩ := hrel
    by_cases h2 : b.length < 2
    · have hd : MarkIs w R p st (loopM (pObj st k) l.length c l) (.returned (.tuple #[.slice none 0 0, .slice none 0 0, .int .i64 6])) wr := by
        obtain ⟨_, _, h3, _, h5, _, h7⟩ := HL.out
        rw [← h7, loopM_short h2]
        exact ⟨h5, rfl, by decide, _, h3⟩
      have HD := Lib.hid hd
      have d0 : decide ((b.length : Int) < 2) = true := by simp; omega
      clear hd HL h2
      go_wp2_with fail
      go_ret3
      exact HD.out
    · obtain ⟨B, rfl⟩ : ∃ B, b = B := ⟨_, rfl⟩
      have d0 : decide ((b.length : Int) < 2) = false := by simp; omega
      have hB2 : 2 ≤ b.length := by omega
      obtain ⟨b0, o0, rfl, hp0, g0⟩ := sees_byte HL.out.2.1 (k := 0) (by omega)
      obtain ⟨b1, o1, e1, _, g1⟩ := sees_byte HL.out.2.1 (k := 1) (by omega)
      injection e1 with e1
      injection e1 with e2 e3
      subst e2 e3
      simp only [Nat.add_zero] at g0
      obtain ⟨n0, hn0⟩ : ∃ n, n = (b[0]'(by omega)).toNat := ⟨_, rfl⟩
      obtain ⟨n1, hn1⟩ : ∃ n, n = (b[1]'(by omega)).toNat := ⟨_, rfl⟩
      rw [← hn0] at g0
      rw [← hn1] at g1
      obtain ⟨m', rfl⟩ : ∃ m', m = m' + 1 := ⟨m - 1, by have := HL.out.2.2.2.2.2.1; omega⟩
      have h00 := take_two (l := b) (by omega)
      rw [← hn0, ← hn1] at h00
      by_cases hz : n0 = 0 ∧ n1 = 0
      · have hlp := loopM_end (ob := pObj st k) (m := m') (c := cN) hB2 (h00.2 hz)
        obtain ⟨z0, z1⟩ := hz
        subst z0 z1
        have HLP := Lib.hid hlp
        obtain ⟨A2, c2, hv, hs2⟩ := HL.out.1.slice
        subst hv
        have hd : ∀ (Ar : Option Addr) (cr nq : Nat), SeesP wr p Ar (Us (b.drop 2)) → b.length - 2 ≤ cr → MarkIs w R p st (loopM (pObj st k) l.length c l) (.returned (.tuple #[.slice A2 acc.len c2, .slice Ar (b.length - 2) cr, .int .i64 0])) (wr.drewN nq) := fun Ar cr nq hA hc => by
          obtain ⟨_, _, h3, _, h5, _, h7⟩ := HL.out
          rw [← h7, HLP.out]
          refine ⟨⟨h5.os, h5.tape, h5.output, h5.size, h5.block⟩, A2, c2, Ar, cr, ?_, h3, ?_, hA, by rw [List.length_drop]; exact hc⟩
          · rw [F.app_nil, List.length_drop]
          · rw [F.app_nil]; exact SeesF.imp (SeesF.keep (w' := wr.drewN nq) hs2 fun _ _ => rfl) fun _ hb => hb
        have HD := Lib.hid hd
        have HSB := Lib.hid (show SeesP wr p (some ⟨b0, o0 + 2, none⟩) (Us (b.drop 2)) from sees_drop HL.out.2.1 hB2)
        clear hn0 hn1 h00 hlp h2 hs2 hd HL
        go_wp2_with fail
        go_quiet (fail)
        go_wp2_with fail
        all_goals go_ret3
        · exact HD.out _ _ _ (sees_empty (by omega)) (by omega)
        · exact HD.out _ _ _ HSB.out (by omega)
      · have HZ := Lib.hid (show b.take 2 ≠ [0, 0] from fun e => hz (h00.1 e))
        have dz : ∀ (Q : Prop), (n0 = 0 → n1 ≠ 0 → Q) → (n0 ≠ 0 → Q) → Q := fun Q q1 q2 => by
          by_cases h : n0 = 0
          · exact q1 h fun h' => hz ⟨h, h'⟩
          · exact q2 h
        clear hn0 hn1 h00 h2 hz
        refine dz _ (fun z0 z1 => ?_) (fun z0 => ?_)
        all_goals first
          | (subst z0; have dn : ((n1 : Int) == 0) = false := (by simp; omega); clear z1)
          | (have dn : ((n0 : Int) == 0) = false := (by simp; omega); clear z0)
        all_goals
          have hc2 := HO.out cN b (some ⟨b0, o0, none⟩) cb wr R p (fun x hx => ⟨Nat.lt_of_lt_of_le (hp x hx).1 HL.out.2.2.2.2.1.size, (hp x hx).2⟩) HL.out.2.2.2.1 (by omega) hcb HL.out.2.2.1 HL.out.2.1
          go_wp2_with fail
          refine hc2.mono ?_
          rintro e w1 ⟨hg, hres⟩
          obtain ⟨r, hr⟩ : ∃ r, pObj st k cN b = r := ⟨_, rfl⟩
          rw [hr] at hres
          have HJ := Lib.hid HL.out.2.2.2.2.2.2
          have HG := Lib.hid (grown_trans HL.out.2.2.2.2.1 hg)
          have HH := Lib.hid (HL.out.1.grown hR hg)
          cases r with
          | error x =>
            obtain ⟨t, A1, nn1, c1, A2, n2, c2, A3, n3, m3, c', rfl, hx, hrd⟩ := hres
            have hstep := loopM_err (m := m') hB2 HZ.out hr
            have hd : ∀ o, MarkIs w R p st (loopM (pObj st k) l.length c l) (.returned (.tuple #[.slice none 0 0, .slice none 0 0, .int .i64 x])) (w1.alloc o) := fun o => by
              rw [← HJ.out, hstep]
              exact ⟨grown_trans HG.out (grown_alloc _ o _), rfl, hx, c', block_alloc hrd o⟩
            have HD := Lib.hid hd
            have d1 : (x != 0) = true := by simpa using hx
            clear hd hx hrd hstep HJ hr HH HL hg hc2
            go_wp2_with fail
            go_ret3
            exact HD.out _
          | ok q =>
            obtain ⟨t, v, kf, rest, c'⟩ := q
            obtain ⟨Av, cv, Ak, ck, Ar, cr, rfl, hrd, hn0, hv, hkf, hrest, hcr⟩ := hres
            have hstep := loopM_ok (m := m') hB2 HZ.out hr
            have hrl := pObj_rest st k cN b t v kf rest c' hr
            obtain ⟨cs, hown0, hh0⟩ := HL.out.1
            obtain ⟨hown, hh⟩ := Held.carry hR hg hown0 hh0
            have HW := Lib.hid (own_size3 hown0)
            have HN := Lib.hid (show Rd w1 R st c' ∧ (Av = none → cv = 0) ∧ SeesP w1 (newB wr w1) Av (Us v) ∧ SeesF w1 (newB wr w1) Ak kf ∧ SeesP w1 p Ar (Us rest) ∧ c' ≤ 256 from ⟨hrd, hn0, hv, hkf, hrest, hrl.2⟩)
            have hrl2 := hrl.1
            have HHH := Lib.hid hh
            have HST := Lib.hid hstep
            clear hrd hn0 hv hkf hrest hstep hr hh hrl hc2 hown0 hh0
            go_wp2_with (at_builtin; refine wpList_append_lies _ rfl (.tmp 40) (.tmp 42) 24 rfl w.heap.size 32 i0 _ 3 56 Try.underlying24 hi hz0 hz1 hz2 rfl (by decide) u9 acc.len cs rfl ((hown.alloc _).alloc _) ⟨_, 0, none⟩ 1 1 _ rfl rfl (World.news_of_block (block_next w1 _ _)) (node_cells _ _ _ _ _ _ _) (by decide) (by unfold maxLen; omega) (by omega) (by have := HG.out.size; simp; omega) _ rfl ?_; intro g cap2 w2 ho hg2 hl2 _)
            have hb2 : Below w1.heap.size w1 _ := ((Below.refl w1.heap.size w1).alloc (Nat.le_refl _) (.cells #[.int .i64 t, .slice Av v.length cv, .slice Ak kf.len ck] 32)).alloc (by simp) (.cells #[.int .i64 t, .slice Av v.length cv, .slice Ak kf.len ck] 32)
            have hsn := Held.snoc hg.size hb2 HN.out.2.1 HN.out.2.2.1 HN.out.2.2.2.1 HL.out.2.2.2.2.1.size HW.out cs HHH.out ho hg2 hl2
            have hrow : Rd w2 R st c' := by
              have h1 : Rd _ R st c' := block_alloc (block_alloc HN.out.1 (.cells #[.int .i64 t, .slice Av v.length cv, .slice Ak kf.len ck] 32)) (.cells #[.int .i64 t, .slice Av v.length cv, .slice Ak kf.len ck] 32)
              refine (hg2.block R (lt_of_block h1) ?_).trans h1
              rcases HW.out with h4 | ⟨g2, h4, h5, _⟩
              · rw [h4]; simp
              · rw [h4]; intro e; injection e with e; omega
            have hgw : w.grownBy w2 (some R) := by
              have h1 := HG.out
              refine ⟨hg2.os.trans (hb2.os.trans h1.os), hg2.tape.trans (hb2.tape.trans h1.tape), hg2.output.trans (hb2.output.trans h1.output), Nat.le_trans h1.size (Nat.le_trans hb2.size hg2.size), fun j hj hj2 => ?_⟩
              refine (hg2.block j (Nat.lt_of_lt_of_le hj (Nat.le_trans h1.size hb2.size)) ?_).trans ((hb2.block j (Nat.lt_of_lt_of_le hj h1.size)).trans (h1.block j hj hj2))
              rcases HW.out with h4 | ⟨g2, h4, h5, _⟩
              · rw [h4]; simp
              · rw [h4]; intro e; injection e with e; omega
            have hbytes : SeesP w2 p Ar (Us rest) := by
              refine HN.out.2.2.2.2.1.keep fun q hq => ?_
              have h6 : q.block < w1.heap.size := Nat.lt_of_lt_of_le (hp _ hq).1 HG.out.size
              refine (World.cell?_of_block (hg2.block q.block (Nat.lt_of_lt_of_le h6 hb2.size) ?_)).trans (hb2.cell h6)
              have h7 := (hp _ hq).1
              rcases HW.out with h4 | ⟨g2, h4, h5, _⟩
              · rw [h4]; simp
              · rw [h4]; intro e; injection e with e; omega
            have HF := Lib.hid (show MrkRel w R p st (pObj st k) (loopM (pObj st k) l.length c l) _ _ Ar rest m' c' w2 from ⟨hsn, hbytes, hrow, HN.out.2.2.2.2.2, hgw, by have := HL.out.2.2.2.2.2.1; omega, by rw [← HJ.out, HST.out, joinM_join]⟩)
            clear hb2 hsn hrow hgw hbytes ho hg2 hl2
            go_roundw
            case rel => exact ⟨_, Ar, cr, rest, m', c', rfl, by rw [F.len_app]; simp only [F.len]; omega, hcr, HF⟩
            case measure => simp only [lenOf]; omega

end Go.Proofs.Ytipmmclahngabaa
