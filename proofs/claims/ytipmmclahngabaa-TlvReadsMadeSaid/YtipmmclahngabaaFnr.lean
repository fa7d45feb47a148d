/-
  What is proved here: what the reference's Find returns, for objects and a path that lie in memory.
-/
import Derived.Test.YtipmmclahngabaaFnd
import Derived.Test.YtipmmclahngabaaSame
namespace Go.Proofs.Ytipmmclahngabaa
open Go.RowKit
set_option linter.unusedVariables false

def zeroV : Value := .agg #[.int .i64 0, .slice none 0 0, .slice none 0 0]
def nodeV (t : Int) (Av : Option Addr) (lv cv : Nat) (Ak : Option Addr) (lk ck : Nat) : Value := .agg #[.int .i64 t, .slice Av lv cv, .slice Ak lk ck]
/-- what Find answers; what the object leads to lies in blocks of which p holds -/
def FindIs (w : World) (p : Nat → Prop) (o : Option (Int × List UInt8 × F)) (e : Ending) (w' : World) : Prop :=
  ((o = none ∧ e = .returned (.tuple #[zeroV, .bool false])) ∨
   ∃ t v k Av cv Ak ck, o = some (t, v, k) ∧ e = .returned (.tuple #[nodeV t Av v.length cv Ak k.len ck, .bool true]) ∧ (Av = none → cv = 0) ∧ SeesP w' p Av (Us v) ∧ SeesF w' p Ak k) ∧ Below w.heap.size w w'
theorem find_none {w w' : World} {p : Nat → Prop} {o : Option (Int × List UInt8 × F)} (h : o = none) (hb : Below w.heap.size w w') : FindIs w p o (.returned (.tuple #[.agg #[.int .i64 0, .slice none 0 0, .slice none 0 0], .bool false])) w' :=
  ⟨.inl ⟨h, rfl⟩, hb⟩
theorem find_some {w w' : World} {p : Nat → Prop} {o : Option (Int × List UInt8 × F)} {t : Int} {v : List UInt8} {k : F} {Av Ak : Option Addr} {cv ck : Nat} (h : o = some (t, v, k)) (hb : Below w.heap.size w w') (h0 : Av = none → cv = 0) (hv : SeesP w' p Av (Us v)) (hk : SeesF w' p Ak k) :
    FindIs w p o (.returned (.tuple #[.agg #[.int .i64 t, .slice Av v.length cv, .slice Ak k.len ck], .bool true])) w' :=
  ⟨.inr ⟨t, v, k, Av, cv, Ak, ck, h, rfl, h0, hv, hk⟩, hb⟩

theorem at_nil (f : F) : F.at f [] = none := by unfold F.at; rfl
theorem at_nilF (x : Int) (ps : List Int) : F.at .nil (x :: ps) = none := by unfold F.at; rfl
theorem at_hit1 {x t : Int} {v : List UInt8} {k r : F} (h : t = x) : F.at (.cons t v k r) [x] = some (t, v, k) := by unfold F.at; rw [fst_hit h]; rfl
theorem at_hit2 {x y t : Int} {v : List UInt8} {k r : F} {ps : List Int} (h : t = x) : F.at (.cons t v k r) (x :: y :: ps) = F.at k (y :: ps) := by
  rw [F.at, fst_hit h]; simp
theorem at_miss {x t : Int} {v : List UInt8} {k r : F} {ps : List Int} (h : t ≠ x) : F.at (.cons t v k r) (x :: ps) = F.at r (x :: ps) := by
  rw [F.at, fst_miss h, F.at]
  cases F.fst x r with
  | none => rfl
  | some y => rfl

/-- a path in memory: its first number, and the rest -/
theorem path_cons {w : World} {q : Nat → Prop} {A : Option Addr} {x : Int} {ps : List Int} (h : SeesP w q A ((x :: ps).map (Value.int .i64))) :
    ∃ b off, A = some ⟨b, off, none⟩ ∧ q b ∧ w.cell? ⟨b, off, none⟩ = some (.int .i64 x) ∧ SeesP w q (some ⟨b, off + 1, none⟩) (ps.map (Value.int .i64)) := by
  rcases h with h | ⟨b, off, e, hb, hc⟩
  · simp at h
  · refine ⟨b, off, e, hb, by simpa using hc 0 (by simp), .inr ⟨b, off + 1, rfl, hb, fun j hj => ?_⟩⟩
    have := hc (j + 1) (by simpa using hj)
    rw [show off + 1 + j = off + (j + 1) by omega, this]
    simp

def FindAll (ps : List Int) : Prop := ∀ (f : F) (A Ap : Option Addr) (c cp : Nat) (w : World) (p q : Nat → Prop), f.ok → f.len ≤ 140737488351232 → ps.length ≤ 140737488351232 → ps.length ≤ cp → (∀ b, p b → b < w.heap.size) → (∀ b, q b → b < w.heap.size) →
  (∀ g : F, g.size ≤ f.size → g.len ≤ 140737488351232) → SeesF w p A f → SeesP w q Ap (ps.map (Value.int .i64)) →
  Calls Try.prog 20 #[.slice A f.len c, .slice Ap ps.length cp] w (FindIs w p (F.at f ps))

theorem zero_set {w : World} {g : Nat} (h : ZeroN w g) (x y z : Value) : (((w.setCell ⟨g, 0, none⟩ x).setCell ⟨g, 1, none⟩ y).setCell ⟨g, 2, none⟩ z).heap[g]? = some (.cells #[x, y, z] 32 (0, 0)) := by
  have := block_set (block_set (block_set h (i := 0) x) (i := 1) y) (i := 2) z
  simpa using this
theorem seesP_set {w : World} {p : Nat → Prop} {A : Option Addr} {cs : List Value} {g : Nat} (h : SeesP w p A cs) (hp : ∀ b, p b → b ≠ g) (x y z : Value) : SeesP (((w.setCell ⟨g, 0, none⟩ x).setCell ⟨g, 1, none⟩ y).setCell ⟨g, 2, none⟩ z) p A cs :=
  h.keep fun q hq => World.cell?_of_block (by
    have hne := hp _ hq
    rw [Below.heap_setCell _ _ _ _ (by simpa using hne), Below.heap_setCell _ _ _ _ (by simpa using hne), Below.heap_setCell _ _ _ _ (by simpa using hne)])
theorem seesF_set {w : World} {p : Nat → Prop} {A : Option Addr} {f : F} {g : Nat} (h : SeesF w p A f) (hp : ∀ b, p b → b ≠ g) (x y z : Value) : SeesF (((w.setCell ⟨g, 0, none⟩ x).setCell ⟨g, 1, none⟩ y).setCell ⟨g, 2, none⟩ z) p A f :=
  h.keep fun q hq => World.cell?_of_block (by
    have hne := hp _ hq
    rw [Below.heap_setCell _ _ _ _ (by simpa using hne), Below.heap_setCell _ _ _ _ (by simpa using hne), Below.heap_setCell _ _ _ _ (by simpa using hne)])
theorem below_set {w wr : World} {g : Nat} (h : Below w.heap.size w wr) (hg : w.heap.size ≤ g) (x y z : Value) : Below w.heap.size w (((wr.setCell ⟨g, 0, none⟩ x).setCell ⟨g, 1, none⟩ y).setCell ⟨g, 2, none⟩ z) :=
  ((h.setCell hg _).setCell hg _).setCell hg _

set_option maxHeartbeats 4000000 in
theorem ref_find : ∀ (ps : List Int), FindAll ps := by
  intro ps
  induction ps with
  | nil =>
    intro f A Ap c cp w p q hok hl hlp hcp hp hq hm hs hps
    have HF := Lib.hid (fun w' (hb : Below w.heap.size w w') => find_none (p := p) (at_nil f) hb)
    clear hs hps hok hm
    have el : ([] : List Int).length = 0 := rfl
    go_enter Try.func20, Try.ntmps20
    go_wp2
    go_loopw [6] (fun i wr => i = .int .i64 0 ∧ wr = w.alloc (.cells #[.int .i64 0, .slice none 0 0, .slice none 0 0] 32)) (fun i _ => 0)
    case atStart => exact ⟨rfl, rfl⟩
    case round =>
      obtain ⟨rfl, rfl⟩ := hrel
      go_wp2
      first | (refine bodyPost_ret (ret_cell_tmp rfl _ _ _ _ _ _ _ rfl (heap_alloc_new _ _) Try.underlying32 rfl info_nodeS) rfl ?_) | (refine bodyPost_ret (ret_cell_tmp rfl _ _ _ _ _ _ _ rfl (block_set (block_set (block_set (heap_alloc_new _ _) _) _) _) Try.underlying32 rfl info_nodeS) rfl ?_)
      refine HF.out _ ?_
      repeat' (first | exact Below.refl _ _ | refine Below.setCell ?_ ?_ _ | refine Below.alloc ?_ ?_ _ | (simp; done))
  | cons x ps ih =>
    intro f A Ap c cp w p q hok hl hlp hcp hp hq hm hs hps
    obtain ⟨cs, s1, k1⟩ := hs
    obtain ⟨bp, op, rfl, hqb, hpx, hpr⟩ := path_cons hps
    obtain ⟨n, hn1⟩ : ∃ n, n = ps.length := ⟨_, rfl⟩
    have hn : (x :: ps).length = n + 1 := by rw [hn1]; rfl
    rw [hn] at hlp hcp ⊢
    have HN := Lib.hid hn1
    have hnp : n + 1 ≤ 140737488351232 := hlp
    obtain ⟨c1, rfl⟩ : ∃ c1, cp = c1 + 1 := ⟨cp - 1, by omega⟩
    have hc1 : n ≤ c1 := by omega
    have hbp := hq bp hqb
    have IH := Lib.hid ih
    have HS := Lib.hid (show SeesP w p A cs ∧ (∀ b, p b → b < w.heap.size) ∧ (∀ b, q b → b < w.heap.size) ∧ (∀ g : F, g.size ≤ f.size → g.len ≤ 140737488351232) from ⟨s1, hp, hq, hm⟩)
    have HP := Lib.hid (show w.cell? ⟨bp, op, none⟩ = some (.int .i64 x) ∧ SeesP w q (some ⟨bp, op + 1, none⟩) (ps.map (Value.int .i64)) from ⟨hpx, hpr⟩)
    have HO := Lib.hid (show f.ok ∧ HoldsP w p f cs from ⟨hok, k1⟩)
    clear hn hn1 hlp hcp s1 k1 hok hp hq hm hps hpx hpr hqb ih
    go_enter Try.func20, Try.ntmps20
    go_wp2
    go_loopw [6] (fun i wr => ∃ (j : Nat) (gg : F), j + gg.len = f.len ∧ i = .int .i64 (j : Int) ∧ Hid (gg.ok ∧ HoldsP w p gg (cs.drop (3 * j)) ∧ F.at f (x :: ps) = F.at gg (x :: ps) ∧ gg.size ≤ f.size ∧ ZeroN wr w.heap.size ∧ Below w.heap.size w wr)) (fun i _ => f.len - (intOf i).toNat)
    case atStart => exact ⟨0, f, by omega, rfl, Lib.hid ⟨HO.out.1, HO.out.2, rfl, Nat.le_refl _, heap_alloc_new _ _, (Below.refl _ _).alloc (Nat.le_refl _) _⟩⟩
    case round =>
      clear HO
      obtain ⟨j, gg, hj, rfl, HG⟩ := hrel
      have hb := HG.out.2.2.2.2.2
      obtain ⟨o0, o1, o2, o3, o4, o5⟩ := HG.out.2.2.2.2.1.cells
      cases gg with
      | nil =>
        have hj2 : j = f.len := hj
        have dk : decide ((j : Int) < (f.len : Int)) = false := by simp; omega
        have HF := Lib.hid (fun w' (hb : Below w.heap.size w w') => find_none (p := p) (HG.out.2.2.1.trans (at_nilF x ps)) hb)
        have HB := Lib.hid hb
        clear hj hb
        go_wp2
        refine bodyPost_ret (ret_cell_tmp rfl _ _ _ _ _ _ _ rfl (zero_set HG.out.2.2.2.2.1 _ _ _) Try.underlying32 rfl info_nodeS) rfl ?_
        exact HF.out _ (below_set HB.out (Nat.le_refl _) _ _ _)
      | cons t v kk r =>
        have hj1 : j + r.len + 1 = f.len := hj
        have dk : decide ((j : Int) < (f.len : Int)) = true := by simp; omega
        have hgs : kk.size + r.size + 1 ≤ f.size := HG.out.2.2.2.1
        obtain ⟨b, off, Av, cv, Ak, ck, rfl, hpb, x0, x1, x2, sv, sk, hr, hnv⟩ := node_at HS.out.1 HG.out.2.1
        have hbw := HS.out.2.1 b hpb
        have y0 := (hb.cell (p := ⟨b, off + j * 3, none⟩) hbw).trans x0
        have y1 := (hb.cell (p := ⟨b, off + j * 3 + 1, none⟩) hbw).trans x1
        have y2 := (hb.cell (p := ⟨b, off + j * 3 + 2, none⟩) hbw).trans x2
        have p0 := (hb.cell (p := ⟨bp, op, none⟩) hbp).trans HP.out.1
        have HR := Lib.hid (show r.ok ∧ HoldsP w p r (cs.drop (3 * (j + 1))) ∧ r.size ≤ f.size from ⟨HG.out.1.2.2.2, hr, by omega⟩)
        have HV := Lib.hid (show SeesP w p Av (Us v) ∧ SeesF w p Ak kk ∧ (Av = none → cv = 0) ∧ kk.ok ∧ kk.len ≤ 140737488351232 from ⟨sv, sk, hnv, HG.out.1.2.2.1, HS.out.2.2.2 kk (by omega)⟩)
        have HB := Lib.hid hb
        by_cases ht : t = x
        · have dt : (t == x) = true := by simpa using ht
          cases ps with
          | nil =>
            obtain rfl : n = 0 := HN.out
            have HF : Hid (∀ (wx : World) (q0 : Nat), FindIs w p (F.at f [x]) (.returned (.tuple #[.agg #[.int .i64 t, .slice Av v.length cv, .slice Ak kk.len ck], .bool true])) ((((wr.drewN q0).setCell ⟨w.heap.size, 0, none⟩ (.int .i64 t)).setCell ⟨w.heap.size, 1, none⟩ (.slice Av v.length cv)).setCell ⟨w.heap.size, 2, none⟩ (.slice Ak kk.len ck))) := Lib.hid (fun wx q0 => by
              refine find_some (HG.out.2.2.1.trans (at_hit1 ht)) (below_set (below_dn HB.out q0) (Nat.le_refl _) _ _ _) HV.out.2.2.1 (seesP_set ?_ (fun b hb => by have := HS.out.2.1 b hb; omega) _ _ _) (seesF_set ?_ (fun b hb => by have := HS.out.2.1 b hb; omega) _ _ _)
              · exact HV.out.1.keep fun q hq => HB.out.cell (HS.out.2.1 _ hq)
              · exact HV.out.2.1.keep fun q hq => HB.out.cell (HS.out.2.1 _ hq))
            clear hj hb x0 x1 x2 sv sk hr hnv hpb ht hbw
            go_wp2
            go_quiet (fail)
            go_wp2
            refine bodyPost_ret (ret_cell_tmp rfl _ _ _ _ _ _ _ rfl (zero_set (w := wr.drewN nq) HG.out.2.2.2.2.1 _ _ _) Try.underlying32 rfl info_nodeS) rfl ?_
            exact HF.out wr nq
          | cons y ps =>
            have hn1 : 0 < n := by rw [HN.out]; simp
            have d1 : ((n : Int) + 1 == 1) = false := by simp; omega
            have HI : Hid (∀ w2, Below wr.heap.size wr w2 → Calls Try.prog 20 #[.slice Ak kk.len ck, .slice (some ⟨bp, op + 1, none⟩) n c1] w2 (FindIs w2 p (F.at kk (y :: ps)))) := Lib.hid (fun w2 h2 => by
              have hbb : Below w.heap.size w w2 := below_on HB.out h2
              have hz := hbb.size
              have h := IH.out kk Ak (some ⟨bp, op + 1, none⟩) ck c1 w2 p q HV.out.2.2.2.1 HV.out.2.2.2.2 (by rw [← HN.out]; omega) (by rw [← HN.out]; exact hc1) (fun b hb => by have := HS.out.2.1 b hb; omega) (fun b hb => by have := HS.out.2.2.1 b hb; omega) (fun g hg => HS.out.2.2.2 g (by omega)) (HV.out.2.1.keep fun q hq => hbb.cell (HS.out.2.1 _ hq)) (HP.out.2.keep fun z hz => hbb.cell (HS.out.2.2.1 _ hz))
              rw [← HN.out] at h
              exact h)
            have hoF := HG.out.2.2.1.trans (at_hit2 (ps := ps) ht)
            have HF : Hid (∀ (w2 w4 : World) (e : Ending), Below wr.heap.size wr w2 → FindIs w2 p (F.at kk (y :: ps)) e w4 → ∃ (a : Int) (A2 A3 : Option Addr) (n2 c2 n3 c3 : Nat) (ok : Bool), e = .returned (.tuple #[.agg #[.int .i64 a, .slice A2 n2 c2, .slice A3 n3 c3], .bool ok]) ∧ ZeroN w4 w.heap.size ∧
                Hid (FindIs w p (F.at f (x :: y :: ps)) (.returned (.tuple #[.agg #[.int .i64 a, .slice A2 n2 c2, .slice A3 n3 c3], .bool ok])) (((w4.setCell ⟨w.heap.size, 0, none⟩ (.int .i64 a)).setCell ⟨w.heap.size, 1, none⟩ (.slice A2 n2 c2)).setCell ⟨w.heap.size, 2, none⟩ (.slice A3 n3 c3)))) := Lib.hid (fun w2 w4 e h2 hf => by
              obtain ⟨hor, hb4⟩ := hf
              have hZ := HG.out.2.2.2.2.1
              have hlt := lt_of_block hZ
              have hbr : Below wr.heap.size wr w4 := Below.trans h2 (hb4.mono h2.size)
              have hbw4 : Below w.heap.size w w4 := below_on HB.out hbr
              have hZ4 : ZeroN w4 w.heap.size := (hbr.block _ hlt).trans hZ
              rcases hor with ⟨ho, rfl⟩ | ⟨t', v', k', Av', cv', Ak', ck', ho, rfl, h0, hv', hk'⟩
              · exact ⟨_, _, _, _, _, _, _, _, rfl, hZ4, Lib.hid (find_none (hoF.trans ho) (below_set hbw4 (Nat.le_refl _) _ _ _))⟩
              · exact ⟨_, _, _, _, _, _, _, _, rfl, hZ4, Lib.hid (find_some (hoF.trans ho) (below_set hbw4 (Nat.le_refl _) _ _ _) h0 (seesP_set hv' (fun b hb => by have := HS.out.2.1 b hb; omega) _ _ _) (seesF_set hk' (fun b hb => by have := HS.out.2.1 b hb; omega) _ _ _))⟩)
            clear hj hb x0 x1 x2 sv sk hr hnv hpb ht hbw hoF
            go_wp2
            go_quiet (fail)
            go_wp2
            have y0 : (wr.drewN nq).cell? ⟨b, off + j * 3 + 2, none⟩ = some (.slice Ak kk.len ck) := y2
            obtain ⟨wq, hwq⟩ : ∃ wq, wq = wr.drewN nq := ⟨_, rfl⟩
            have HBq : Hid (Below wr.heap.size wr wq) := Lib.hid (by rw [hwq]; exact below_dn (Below.refl _ _) _)
            rw [← hwq] at y0 ⊢
            have hsz : wr.heap.size = wq.heap.size := by rw [hwq]; rfl
            have HSZ := Lib.hid hsz
            clear hwq hsz y1 y2 p0 o0 o1 o2 o3 o4 o5
            go_region_with (go_at_call 20; refine (HI.out _ (Below.trans HBq.out (by rw [HSZ.out]; first | exact Below.refl _ _ | exact (Below.refl _ _).drew | exact below_dn (Below.refl _ _) _ | exact (below_dn (Below.refl _ _) _).drew))).mono ?_; rintro e w4 hfe; obtain ⟨a1, A2, A3, n2, c2, n3, c3, ok, rfl, hZ4, HQ⟩ := HF.out _ _ _ (Below.trans HBq.out (by rw [HSZ.out]; first | exact Below.refl _ _ | exact (Below.refl _ _).drew | exact below_dn (Below.refl _ _) _ | exact (below_dn (Below.refl _ _) _).drew)) hfe; obtain ⟨o0, o1, o2, o3, o4, o5⟩ := hZ4.cells; have HZ4 := Lib.hid hZ4; clear hfe hZ4)
            all_goals
              go_wp2
              refine bodyPost_ret (ret_cell_tmp rfl _ _ _ _ _ _ _ rfl (zero_set HZ4.out _ _ _) Try.underlying32 rfl info_nodeS) rfl ?_
              exact HQ.out
        · have dt : (t == x) = false := by simpa using ht
          have HE := Lib.hid (HG.out.2.2.1.trans (at_miss ht))
          have HZ := Lib.hid HG.out.2.2.2.2.1
          clear hj hb x0 x1 x2 sv sk hr hnv hpb ht hbw HG
          go_wp2
          go_quiet (fail)
          go_wp2
          go_roundw
          case rel => exact ⟨j + 1, r, by omega, by go_num, Lib.hid ⟨HR.out.1, HR.out.2.1, HE.out, HR.out.2.2, HZ.out, below_dn HB.out _⟩⟩
          case measure => simp [intOf]; omega

end Go.Proofs.Ytipmmclahngabaa
