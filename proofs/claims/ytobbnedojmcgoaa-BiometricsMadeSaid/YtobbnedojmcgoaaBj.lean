/-
  What is proved here: the reference's Decode.
-/
import Derived.Test.YtobbnedojmcgoaaBi
namespace Go.Proofs.Ytobbnedojmcgoaa
open Go.RowKit
set_option linter.unusedVariables false
set_option linter.unusedSimpArgs false

theorem peT {a : Act} {x0 x1 x2 x3 x4 x5 x6 : Operand} {u0 u1 u2 u3 u4 u5 u6 : Value} (h0 : a.eval x0 = u0) (h1 : a.eval x1 = u1) (h2 : a.eval x2 = u2) (h3 : a.eval x3 = u3) (h4 : a.eval x4 = u4) (h5 : a.eval x5 = u5) (h6 : a.eval x6 = u6) :
    ((#[(0, x0), (1, x1), (2, x2), (3, x3), (5, x4), (4, x5), (6, x6)] : Array (Nat × Operand)).map fun (i, x) => (i, a.eval x)).toList = [(0, u0), (1, u1), (2, u2), (3, u3), (5, u4), (4, u5), (6, u6)] := by simp [h0, h1, h2, h3, h4, h5, h6]
theorem peN6 {a : Act} {x0 x1 x2 x3 x4 x5 : Operand} {u0 u1 u2 u3 u4 u5 : Value} (h0 : a.eval x0 = u0) (h1 : a.eval x1 = u1) (h2 : a.eval x2 = u2) (h3 : a.eval x3 = u3) (h4 : a.eval x4 = u4) (h5 : a.eval x5 = u5) :
    ((#[(0, x0), (1, x1), (2, x2), (3, x3), (4, x4), (5, x5)] : Array (Nat × Operand)).map fun (i, x) => (i, a.eval x)).toList = [(0, u0), (1, u1), (2, u2), (3, u3), (4, u4), (5, u5)] := by simp [h0, h1, h2, h3, h4, h5]
def TmF (wr : World) (x : Tm) (u : Value) (c : World) : Prop := ∃ A cv, u = .agg (x.cs A cv).toArray ∧ ((A = none → cv = 0) ∧ x.d.length ≤ cv) ∧ SeesP c (newB wr c) A (Us x.d)
theorem TmF.firm (wr : World) (x : Tm) : Firm (TmF wr x) := by
  rintro u c c' ⟨A, cv, h1, h2, h3⟩ hb
  exact ⟨A, cv, h1, h2, h3.newOn hb⟩
def TmS (wr : World) (x : Tm) (u : Value) (c : World) : Prop := ∃ A cv g, u = .slice (some ⟨g, 0, none⟩) 1 1 ∧ newB wr c g ∧ RowV c g (x.cs A cv) ∧ ((A = none → cv = 0) ∧ x.d.length ≤ cv) ∧ SeesP c (newB wr c) A (Us x.d)
theorem TmS.firm (wr : World) (x : Tm) : Firm (TmS wr x) := by
  rintro u c c' ⟨A, cv, g, h1, h0, h4, h2, h3⟩ hb
  exact ⟨A, cv, g, h1, ⟨h0.1, Nat.lt_of_lt_of_le h0.2 hb.size⟩, h4.on hb, h2, h3.newOn hb⟩
theorem sees_row {wr c c' : World} {A : Option Addr} {cs : List Value} {v : Value} (h3 : SeesP c (newB wr c) A cs) (hg : c.grownBy c' v.ownBlock) (hv : ∀ g, v.ownBlock = some g → g < wr.heap.size) : SeesP c' (newB wr c') A cs :=
  (h3.keep fun q hq => World.cell?_of_block (hg.block _ hq.2 fun e => by have := hv _ e.symm; have := hq.1; omega)).imp fun b hb => ⟨hb.1, Nat.lt_of_lt_of_le hb.2 hg.size⟩
theorem BytF.row {wr : World} {x : List UInt8} {n : Nat} {u : Value} {c c' : World} {v : Value} (h : BytF wr x n u c) (hg : c.grownBy c' v.ownBlock) (hv : ∀ g, v.ownBlock = some g → g < wr.heap.size) : BytF wr x n u c' := by
  obtain ⟨A, cv, h1, h2, h3⟩ := h
  exact ⟨A, cv, h1, h2, sees_row h3 hg hv⟩
theorem TmF.row {wr : World} {x : Tm} {u : Value} {c c' : World} {v : Value} (h : TmF wr x u c) (hg : c.grownBy c' v.ownBlock) (hv : ∀ g, v.ownBlock = some g → g < wr.heap.size) : TmF wr x u c' := by
  obtain ⟨A, cv, h1, h2, h3⟩ := h
  exact ⟨A, cv, h1, h2, sees_row h3 hg hv⟩
theorem TmS.row {wr : World} {x : Tm} {u : Value} {c c' : World} {v : Value} (h : TmS wr x u c) (hg : c.grownBy c' v.ownBlock) (hv : ∀ g, v.ownBlock = some g → g < wr.heap.size) : TmS wr x u c' := by
  obtain ⟨A, cv, g, h1, h0, h4, h2, h3⟩ := h
  refine ⟨A, cv, g, h1, ⟨h0.1, Nat.lt_of_lt_of_le h0.2 hg.size⟩, h4.same (hg.block _ h0.2 fun e => ?_), h2, sees_row h3 hg hv⟩
  have := hv _ e.symm
  have := h0.1
  omega
def HelT (w : World) (L : List Tm) (u : Value) (c : World) : Prop := HeldT w c u L
theorem HelT.firm (w : World) (L : List Tm) : Firm (HelT w L) := fun u c c' h hb => HeldT.on h hb
theorem DecIs.bad {f : F} {w w' : World} (h : lstT f = none) (hb : Below w.heap.size w w') : DecIs f w (.returned (.tuple #[.slice none 0 0, .int .i64 1])) w' := by
  have h1 : decV f = [] ∧ decE f = 1 := by unfold decV decE; rw [h]; exact ⟨rfl, rfl⟩
  unfold DecIs
  rw [h1.1, h1.2]
  exact ⟨none, 0, rfl, SeesT.nil_, hb⟩
theorem DecIs.mk2 {f : F} {w w' : World} {q : Int} {L : List Tm} {n : Nat} {A : Option Addr} {c : Nat} (h1 : decE f = q) (h2 : decV f = L) (hn : L.length = n) (hs : SeesT w' (newB w w') A L) (hb : Below w.heap.size w w') : DecIs f w (.returned (.tuple #[.slice A n c, .int .i64 q])) w' := by
  subst hn
  unfold DecIs
  rw [h1, h2]
  exact ⟨A, c, rfl, hs, hb⟩
theorem ix_u8 (g o c : Nat) (w : World) : (Instr.indexAt 25 (.slice (some ⟨g, o, none⟩) 1 c) (.int .i64 0)).run Try.prog w = .ok (.pointer (some ⟨g, o, none⟩)) w := by
  simp [go_sem, Addr.add]
/-- the length of the Kids of a list's first object -/
def F.k0 : F → Nat
  | .nil => 0
  | .cons _ _ k _ => k.len
theorem rcons_iff {t : Int} {lk lv : Nat} {tag : Int} : rPrim t lk lv tag (-1) = true ↔ t = tag ∧ lv = 0 := by
  unfold rPrim
  simp
theorem rcons_n {t : Int} {lk lv m : Nat} {tag : Int} : rPrim t lk lv tag (m : Int) = true ↔ t = tag ∧ lv = 0 ∧ lk = m := by
  unfold rPrim
  have h : ¬ (m : Int) < 0 := by omega
  simp [h]
  intro _ _
  omega
set_option maxHeartbeats 12800000 in
set_option maxRecDepth 20000 in
theorem r_decode (f : F) (n : Nat) (hn : f.len = n) (hok : f.ok) (hk0 : f.k0 ≤ 140737488351232) (A : Option Addr) (c : Nat) (w : World) (hs : SeesN w (· < w.heap.size) A f) :
    Calls Try.prog 18 #[.slice A n c] w (DecIs f w) := by
  by_cases hn1 : n = 1
  · subst hn1
    obtain ⟨t, v, k, rfl⟩ : ∃ t v k, f = .cons t v k .nil := by
      match f, hn with
      | .cons a b d .nil, _ => exact ⟨a, b, d, rfl⟩
      | .cons a b d (.cons _ _ _ _), h => simp [F.len] at h
    obtain ⟨lb, lo, Av, cv, Ak, ck, rfl, hlb, hlr, _, _, hkc, _, hk⟩ := node_atN (j := 0) hs rfl
    rw [Nat.zero_mul, Nat.add_zero] at hlr
    obtain ⟨vn, hvn⟩ : ∃ n, v.length = n := ⟨_, rfl⟩
    obtain ⟨lk, hlk⟩ : ∃ n, k.len = n := ⟨_, rfl⟩
    have hlkb : lk ≤ 140737488351232 := by rw [← hlk]; exact hk0
    clear hk0
    rw [hvn, hlk] at hlr
    rw [hlk] at hkc
    have hF := fun w => r13_cons t Av vn cv Ak lk ck 32609 (-1) w
    obtain ⟨us, hus⟩ : ∃ us, nodV t Av vn cv Ak lk ck = us := ⟨_, rfl⟩
    have hu2 : us[2]? = some (.slice Ak lk ck) := by rw [← hus]; rfl
    obtain ⟨g, hg⟩ : ∃ q, rPrim t lk vn 32609 (-1) = q := ⟨_, rfl⟩
    have hgt : g = true ↔ (t = 32609 ∧ v.length = 0) := by rw [← hg, hvn]; exact rcons_iff
    have husz : (Try.prog.info? 53).map (·.size) = some us.length := by rw [← hus]; exact size_n
    rw [hus] at hlr hF
    rw [hg] at hF
    have hr2 := fun cur (h : Below w.heap.size w cur) => rangeAt_on hlr hlb h
    have hr3 := fun cur (h : Below w.heap.size w cur) => (rangeAt_on hlr hlb h) 2 _ hu2
    have HU := Lib.hid (show _ ∧ _ ∧ _ ∧ _ from ⟨hr2, husz, hF, hr3⟩)
    have HB := Lib.hid (Below.refl w.heap.size w)
    clear hlr hF hr2 hus husz hu2 hr3 hg hvn
    rcases g with _ | _
    · have HD := Lib.hid (lst_none (t := t) (v := v) (k := k) (r := .nil) (.inl fun h => Bool.noConfusion (hgt.2 h)))
      clear hgt hs hn hok hkc hlk hk hlb
      go_enter Try.func18, Try.ntmps18
      go_wp2_with fail
      have q1 := quiet_up (w := w) fun w' _ => HU.out.2.2.1 w'
      have ix0 := fun w => ix_nod0 lb lo 1 c (by decide) w
      refine wp_region_quiet_below (by kernel_rfl) (by kernel_rfl) ?_
      repeat (first
        | ((with_reducible refine at_qload_ (d := 18) ?_); refine quiet_load_mid rfl _ _ rfl lb lo rfl us _ (range_up HU.out.1) Try.underlying53 rfl HU.out.2.1 ?_)
        | go_big_quiet_skip | (go_big_quiet_want; go_big_quiet_op; go_big_quiet_on) | quiet_step (with_reducible exact q1 _ _))
      refine wpQuiet_nil ?_
      intro w3 hw3
      have H3 := Lib.hid (below_of_regrown hw3)
      clear hw3 q1
      go_wp2
      go_ret2
      exact DecIs.bad HD.out H3.out
    by_cases h0 : lk = 0
    · have HD := Lib.hid (lst_none (t := t) (v := v) (k := k) (r := .nil) (.inr (.inl (by rw [hlk]; exact h0))))
      subst h0
      clear hgt hs hn hok hkc hlk hk hlb
      go_enter Try.func18, Try.ntmps18
      go_wp2_with fail
      have q1 := quiet_up (w := w) fun w' _ => HU.out.2.2.1 w'
      have ix0 := fun w => ix_nod0 lb lo 1 c (by decide) w
      have c2 := cell_up (w := w) HU.out.2.2.2
      refine wp_region_quiet_below (by kernel_rfl) (by kernel_rfl) ?_
      repeat (first
        | ((with_reducible refine at_qload_ (d := 18) ?_); refine quiet_load_mid rfl _ _ rfl lb lo rfl us _ (range_up HU.out.1) Try.underlying53 rfl HU.out.2.1 ?_)
        | go_big_quiet_skip | (go_big_quiet_want; go_big_quiet_op; go_big_quiet_on) | quiet_step (with_reducible exact q1 _ _))
      refine wpQuiet_nil ?_
      intro w3 hw3
      have H3 := Lib.hid (below_of_regrown hw3)
      clear hw3 q1 c2
      go_wp2
      go_ret2
      exact DecIs.bad HD.out H3.out
    obtain ⟨tc, vc, kc, r, rfl⟩ : ∃ tc vc kc r, k = .cons tc vc kc r := by
      match k with
      | .nil => exact absurd hlk.symm h0
      | .cons a b d e => exact ⟨a, b, d, e, rfl⟩
    obtain ⟨q, hq⟩ : ∃ q, r.len = q := ⟨_, rfl⟩
    have hlkq : lk = q + 1 := by rw [← hlk, ← hq]; rfl
    obtain ⟨kb, ko, A1, c1, B1, d1, rfl, hkb, hkr, _, _, _, hvs, _⟩ := node_atN (j := 0) hk rfl
    rw [Nat.zero_mul, Nat.add_zero] at hkr
    obtain ⟨nc, hnc⟩ : ∃ n, vc.length = n := ⟨_, rfl⟩
    have hO := fun w => r13_prim tc A1 nc c1 B1 kc.len d1 2 1 w
    rw [hnc] at hkr
    obtain ⟨n1, hn1⟩ : ∃ z, nodV tc A1 nc c1 B1 kc.len d1 = z := ⟨_, rfl⟩
    have hn3 : (Try.prog.info? 53).map (·.size) = some n1.length := by rw [← hn1]; exact size_n
    have hn4 : n1[1]? = some (.slice A1 nc c1) := by rw [← hn1]; rfl
    rw [hn1] at hkr hO
    obtain ⟨ok, hokk⟩ : ∃ z, rPrim tc nc kc.len 2 1 = z := ⟨_, rfl⟩
    rw [hokk] at hO
    have hgo : ok = true ↔ (tc = 2 ∧ kc.len = 0 ∧ nc = 1) := by rw [← hokk]; exact rcons_n (m := 1)
    have hlst : lstT (.cons t v (.cons tc vc kc r) .nil) = if ok = true ∧ numL vc = q then tmsT r else none := by
      have h2 := hgt.1 rfl
      show (if t = 32609 ∧ v.length = 0 ∧ tc = 2 ∧ kc.len = 0 ∧ vc.length = 1 ∧ numL vc = r.len then tmsT r else none) = _
      by_cases h3 : ok = true
      · have h4 := hgo.1 h3
        by_cases h6 : numL vc = q
        · rw [if_pos ⟨h2.1, h2.2, h4.1, h4.2.1, hnc.trans h4.2.2, by rw [h6, hq]⟩, if_pos ⟨h3, h6⟩]
        · rw [if_neg (fun h => h6 (by rw [h.2.2.2.2.2, hq])), if_neg (fun h => h6 h.2)]
      · rw [if_neg (fun h => h3 (hgo.2 ⟨h.2.2.1, h.2.2.2.1, hnc.symm.trans h.2.2.2.2.1⟩)), if_neg (fun h => h3 h.1)]
    have hr2 := fun cur (h : Below w.heap.size w cur) => rangeAt_on hkr hkb h
    have hr4 := fun cur (h : Below w.heap.size w cur) => (rangeAt_on hkr hkb h) 1 _ hn4
    have HK := Lib.hid (show _ ∧ _ ∧ _ ∧ _ from ⟨hr2, hn3, hO, hr4⟩)
    have hlk0 : 0 < lk := by omega
    have dl : decide ((lk : Int) < 1) = false := by simp; omega
    rcases ok with _ | _
    · have HD := Lib.hid (show lstT (.cons t v (.cons tc vc kc r) .nil) = none from by rw [hlst]; rfl)
      clear hgt hs hn hok hkc hlk hk hlb h0 hq hkb hkr hvs hnc hO hn1 hn3 hn4 hokk hgo hlst hr2 hr4 hlkq
      go_enter Try.func18, Try.ntmps18
      go_wp2_with fail
      have q1 := quiet_up (w := w) fun w' _ => HU.out.2.2.1 w'
      have q2 := quiet_up (w := w) fun w' _ => HK.out.2.2.1 w'
      have ix0 := fun w => ix_nod0 lb lo 1 c (by decide) w
      have ix1 := fun w => ix_nod0 kb ko lk ck hlk0 w
      have c2 := cell_up (w := w) HU.out.2.2.2
      refine wp_region_quiet_below (by kernel_rfl) (by kernel_rfl) ?_
      repeat (first
        | ((with_reducible refine at_qload_ (d := 18) ?_); refine quiet_load_mid rfl _ _ rfl lb lo rfl us _ (range_up HU.out.1) Try.underlying53 rfl HU.out.2.1 ?_)
        | ((with_reducible refine at_qload_ (d := 36) ?_); refine quiet_load_mid rfl _ _ rfl kb ko rfl n1 _ (range_up HK.out.1) Try.underlying53 rfl HK.out.2.1 ?_)
        | go_big_quiet_skip | (go_big_quiet_want; go_big_quiet_op; go_big_quiet_on) | quiet_step (first | with_reducible exact q1 _ _ | with_reducible exact q2 _ _))
      refine wpQuiet_nil ?_
      intro w3 hw3
      have H3 := Lib.hid (below_of_regrown hw3)
      clear hw3 q1 q2 c2
      go_wp2
      go_ret2
      exact DecIs.bad HD.out H3.out
    obtain ⟨cb, rfl⟩ : ∃ b, vc = [b] := List.length_eq_one_iff.1 (hnc.trans (hgo.1 rfl).2.2)
    obtain ⟨vb, vo, rfl, hvb, hvcell⟩ : ∃ b o, A1 = some ⟨b, o, none⟩ ∧ b < w.heap.size ∧ w.cell? ⟨b, o, none⟩ = some (.int .u8 (cb.toNat : Int)) := by
      rcases hvs with h | ⟨b, o, e, hb, hc⟩
      · simp [Us] at h
      · exact ⟨b, o, e, hb, (hc 0 (by simp [Us])).trans rfl⟩
    obtain rfl : nc = 1 := hnc.symm
    obtain ⟨cn, hcn⟩ : ∃ z, cb.toNat = z := ⟨_, rfl⟩
    have hnum : numL [cb] = cn := by simp [numL, hcn]
    rw [hcn] at hvcell
    rw [hnum] at hlst
    have hcn2 : cn < 256 := by rw [← hcn]; exact UInt8.toNat_lt _
    have hvc := fun cur (h : Below w.heap.size w cur) => (h.cell (p := ⟨vb, vo, none⟩) hvb).trans hvcell
    have HVC := Lib.hid hvc
    have ixv := fun w => ix_u8 vb vo c1 w
    by_cases hcq : cn = q
    · subst hcq
      have dq : ((cn : Int) != (lk : Int) - 1) = false := by simp; omega
      have dw : wrap64 ((lk : Int) - 1) = (lk : Int) - 1 := by unfold wrap64; omega
      have HE := Lib.hid (show lstT (.cons t v (.cons tc [cb] kc r) .nil) = tmsT r from by rw [hlst]; simp)
      have HS := Lib.hid (show _ ∧ _ ∧ F.ok _ ∧ _ from ⟨hk, hlk, hok.2.2.1, hlkq⟩)
      have hlk3 : lk ≤ 256 := by omega
      obtain ⟨i0, hi, hz0, hz1, hz2⟩ := info_parts info_tb
      obtain ⟨i1, hi1, hy0, hy1, hy2⟩ := info_parts info_u8b
      clear hgt hs hn hok hkc hlk hk hlb h0 hq hkb hkr hnc hO hn1 hn3 hn4 hokk hgo hlst hr2 hr4 hvb hvcell hcn hnum hvc hlkq hvs
      go_enter Try.func18, Try.ntmps18
      go_wp2_with fail
      have q1 := quiet_up (w := w) fun w' _ => HU.out.2.2.1 w'
      have q2 := quiet_up (w := w) fun w' _ => HK.out.2.2.1 w'
      have ix0 := fun w => ix_nod0 lb lo 1 c (by decide) w
      have ix1 := fun w => ix_nod0 kb ko lk ck hlk0 w
      have c2 := cell_up (w := w) HU.out.2.2.2
      have c4 := cell_up (w := w) HK.out.2.2.2
      have c5 := cell_up (w := w) HVC.out
      refine wp_region_quiet_below (by kernel_rfl) (by kernel_rfl) ?_
      repeat (first
        | ((with_reducible refine at_qload_ (d := 18) ?_); refine quiet_load_mid rfl _ _ rfl lb lo rfl us _ (range_up HU.out.1) Try.underlying53 rfl HU.out.2.1 ?_)
        | ((with_reducible refine at_qload_ (d := 36) ?_); refine quiet_load_mid rfl _ _ rfl kb ko rfl n1 _ (range_up HK.out.1) Try.underlying53 rfl HK.out.2.1 ?_)
        | go_big_quiet_skip | (go_big_quiet_want; go_big_quiet_op; go_big_quiet_on) | quiet_step (first | with_reducible exact q1 _ _ | with_reducible exact q2 _ _))
      refine wpQuiet_nil ?_
      intro w3 hw3
      have H3 := Lib.hid (below_of_regrown hw3)
      clear hw3 q1 q2 c2 c4 c5
      clear ix0 ix1 ixv dq dw dl
      go_wp2
      go_loopw [4, 5] (fun u4 i wr => ∃ (jj : Nat), 1 ≤ jj ∧ jj ≤ lk ∧ i = .int .i64 (jj : Int) ∧ Hid (∃ LL : List Tm, LL.length = jj - 1 ∧ HeldT w wr u4 LL ∧ Below w.heap.size w wr ∧ tmsT r = (tmsT ((F.cons tc [cb] kc r).drop jj)).map (LL ++ ·))) (fun _ i _ => lk - (intOf i).toNat)
      case atStart => exact ⟨1, by omega, by omega, rfl, Lib.hid ⟨[], rfl, (HeldT.start w w).on H3.out, H3.out, by
        have e : (F.cons tc [cb] kc r).drop 1 = r := by cases r <;> rfl
        rw [e]
        rcases tmsT r with _ | l <;> rfl⟩⟩
      case round =>
        obtain ⟨jj, hj1, hj, rfl, HJ⟩ := hrel
        obtain ⟨LL, hLL, hheld, hbw, htms⟩ := HJ.out
        have c0 := HU.out.2.2.2 wr hbw
        by_cases hlt : jj < lk
        · have dj : decide ((jj : Int) < (lk : Int)) = true := by simp; omega
          obtain ⟨tt, vv, kk, hdk⟩ := F.drop_cons (f := .cons tc [cb] kc r) (j := jj) (by rw [HS.out.2.1]; exact hlt)
          obtain ⟨kb', ko', Av', cv', Ak', ck', e', hob, hor, _, _, _, _, hsk⟩ := node_atN HS.out.1 hdk
          injection e' with e'
          injection e' with e1 e2 _
          subst e1; subst e2
          have hkok : kk.ok := by
            have h := F.ok_drop (j := jj) HS.out.2.2.1
            rw [hdk] at h
            exact h.2.2.1
          obtain ⟨vn', hvn'⟩ : ∃ n, vv.length = n := ⟨_, rfl⟩
          obtain ⟨kl, hkl⟩ : ∃ n, kk.len = n := ⟨_, rfl⟩
          have hstep := tmsT_step hdk
          rw [hvn', hkl] at hor
          have hC1 := fun w => r13_cons tt Av' vn' cv' Ak' kl ck' 32608 2 w
          obtain ⟨xs, hxs⟩ : ∃ z, nodV tt Av' vn' cv' Ak' kl ck' = z := ⟨_, rfl⟩
          have hx3 : (Try.prog.info? 53).map (·.size) = some xs.length := by rw [← hxs]; exact size_n
          have hx4 : xs.length = zerN.length := by rw [← hxs]; rfl
          have hx5 : ∀ u ∈ xs, u.oneCell' = true := by rw [← hxs]; exact nodV_one _ _ _ _ _ _ _
          have hx6 : xs[2]? = some (.slice Ak' kl ck') := by rw [← hxs]; rfl
          rw [hxs] at hor hC1
          obtain ⟨b1, hb1⟩ : ∃ z, rPrim tt kl vn' 32608 2 = z := ⟨_, rfl⟩
          rw [hb1] at hC1
          have hor2 := fun cur (h : Below w.heap.size w cur) => rangeAt_on hor hob h
          have HX0 := Lib.hid (show _ ∧ _ ∧ _ ∧ _ ∧ _ from ⟨hor2, hx3, hC1, hx4, hx5⟩)
          have HO := Lib.hid (show LL.length = jj - 1 ∧ HeldT w wr u4 LL ∧ Below w.heap.size w wr ∧ tmsT r = Option.map (LL ++ ·) (match tmT tt vv kk with | none => none | some x => (tmsT ((F.cons tc [cb] kc r).drop (jj + 1))).map (x :: ·)) from ⟨hLL, hheld, hbw, by rw [htms, hstep]; cases tmT tt vv kk <;> rfl⟩)
          have HZ6 := Lib.hid hx6
          clear HJ hdk hob hor hstep hC1 hxs hx3 hx4 hx5 hx6 hor2 hLL hheld hbw htms
          rcases b1 with _ | _
          · have HTM := Lib.hid (show tmT tt vv kk = none from tmT_two (by
              by_cases h : kl = 2
              · left
                rintro ⟨h1, h2⟩
                have := (rcons_n (t := tt) (lk := kl) (lv := vn') (m := 2) (tag := 32608)).2 ⟨h1, by rw [← hvn']; exact h2, h⟩
                have h3 : rPrim tt kl vn' 32608 2 = true := this
                rw [hb1] at h3; cases h3
              · right; rw [hkl]; exact h))
            clear hkok hkl hvn' hb1 hsk
            have HD := Lib.hid (show lstT (.cons t v (.cons tc [cb] kc r) .nil) = none from by rw [HE.out, HO.out.2.2.2, HTM.out]; rfl)
            go_wp2_with (first
            | ((with_reducible refine at_load_ (d := 74) ?_); go_must (refine wpList_load_mid rfl 53 (.tmp 73) rfl kb (ko + jj * 3) rfl xs _ (HX0.out.1 _ HO.out.2.2.1) Try.underlying53 rfl HX0.out.2.1 ?_))
            | ((with_reducible refine at_alloc_ (d := 6) ?_); refine wpList_alloc_v (op := ⟨some 6, _, _, _, _, _⟩) rfl 53 rfl zerN info_n ?_; intro g6 w4 hf hr; have H4 := Lib.hid (show _ ∧ _ from ⟨hf, hr⟩); clear hf hr)
            | ((with_reducible refine at_store_ (i := 6) ?_); go_must (refine wpList_store_v rfl 53 (.tmp 6) (.tmp 74) rfl g6 zerN xs rfl rfl H4.out.2 HX0.out.2.2.2.1 HX0.out.2.2.2.2 HX0.out.2.1 ?_); intro w5 hw hr; have hb := H4.out.1.wr_bl hw; have H6 := Lib.hid (show Below w.heap.size w w5 ∧ RowV w5 g6 xs ∧ HeldT w w5 u4 LL ∧ wr.heap.size ≤ g6 from ⟨below_on HO.out.2.2.1 hb, hr, HO.out.2.1.on hb, by rw [H4.out.1.1]; exact Nat.le_refl _⟩); clear hw hr hb)
            | ((with_reducible refine at_load_ (d := 75) ?_); go_must (refine wpList_load_v rfl 53 (.tmp 6) rfl g6 rfl xs _ H6.out.2.1 Try.underlying53 rfl HX0.out.2.1 ?_))
            | (go_at_call 36; ((with_reducible refine (HX0.out.2.2.1 _).mono ?_); rintro e w7 ⟨rfl, hb⟩); have H7 := Lib.hid (show Below w.heap.size w w7 ∧ RowV w7 g6 xs ∧ HeldT w w7 u4 LL from ⟨below_on H6.out.1 hb, H6.out.2.1.on hb, H6.out.2.2.1.on hb⟩); clear hb))
            go_ret2
            exact DecIs.bad HD.out H7.out.1
          obtain ⟨ht1, ht2, rfl⟩ := (rcons_n (t := tt) (lk := kl) (lv := vn') (m := 2) (tag := 32608)).1 hb1
          obtain ⟨th, vh, kh, r1, rfl⟩ : ∃ th vh kh r1, kk = .cons th vh kh r1 := by
            match kk, hkl with
            | .cons a b c d, _ => exact ⟨a, b, c, d, rfl⟩
          obtain ⟨td, vd, kd, rfl⟩ : ∃ td vd kd, r1 = .cons td vd kd .nil := by
            match r1, hkl with
            | .cons a b c .nil, _ => exact ⟨a, b, c, rfl⟩
            | .cons a b c (.cons _ _ _ _), h => simp [F.len] at h
          obtain ⟨xb, xo, C1, e1, D1, f1, rfl, hxb1, hxr1, _, _, _, _, hxk1⟩ := node_atN (j := 0) hsk rfl
          obtain ⟨xb', xo', C2, e2, D2, f2, e', hxb2, hxr2, ha2, _, _, hv2, _⟩ := node_atN (j := 1) hsk rfl
          injection e' with e'
          injection e' with q1 q2 _
          subst q1; subst q2
          have hdb := hkok.2.2.2.2.1
          obtain ⟨nh, hnh⟩ : ∃ n, vh.length = n := ⟨_, rfl⟩
          obtain ⟨hl, hhl⟩ : ∃ n, kh.len = n := ⟨_, rfl⟩
          rw [hnh, hhl] at hxr1
          have hC2 := fun w => r13_cons th C1 nh e1 D1 hl f1 161 6 w
          have hC3 := fun w => r13_prim td C2 vd.length e2 D2 kd.len f2 24366 (-1) w
          obtain ⟨hs1, hhs1⟩ : ∃ q, nodV th C1 nh e1 D1 hl f1 = q := ⟨_, rfl⟩
          obtain ⟨hs2, hhs2⟩ : ∃ q, nodV td C2 vd.length e2 D2 kd.len f2 = q := ⟨_, rfl⟩
          have hz1' : (Try.prog.info? 53).map (·.size) = some hs1.length := by rw [← hhs1]; exact size_n
          have hz2' : (Try.prog.info? 53).map (·.size) = some hs2.length := by rw [← hhs2]; exact size_n
          have hh1 : hs1[2]? = some (.slice D1 hl f1) := by rw [← hhs1]; rfl
          have hh2 : hs2[1]? = some (.slice C2 vd.length e2) := by rw [← hhs2]; rfl
          rw [hhs1] at hxr1 hC2
          rw [hhs2] at hxr2 hC3
          obtain ⟨b2, hb2⟩ : ∃ z, rPrim th hl nh 161 6 = z := ⟨_, rfl⟩
          obtain ⟨b3, hb3⟩ : ∃ z, rPrim td vd.length kd.len 24366 (-1) = z := ⟨_, rfl⟩
          rw [hb2] at hC2
          rw [hb3] at hC3
          rw [Nat.zero_mul, Nat.add_zero] at hxr1
          rw [Nat.one_mul] at hxr2
          have hxr1' := fun cur (h : Below w.heap.size w cur) => rangeAt_on hxr1 hxb1 h
          have hxr2' := fun cur (h : Below w.heap.size w cur) => rangeAt_on hxr2 hxb2 h
          have HZ := Lib.hid (show _ ∧ _ ∧ _ ∧ _ ∧ _ ∧ _ from ⟨hxr1', hxr2', hz1', hz2', hC2, hC3⟩)
          have HHC := Lib.hid (show _ ∧ _ from ⟨fun cur (h : Below w.heap.size w cur) => (rangeAt_on hxr1 hxb1 h) 2 _ hh1, fun cur (h : Below w.heap.size w cur) => (rangeAt_on hxr2 hxb2 h) 1 _ hh2⟩)
          have HXK := Lib.hid (show _ ∧ _ ∧ _ ∧ _ from ⟨ha2, hv2, hdb, hxk1⟩)
          have htm : tmT tt vv (.cons th vh kh (.cons td vd kd .nil)) = if td = 24366 ∧ kd.len = 0 then (hdrT th vh kh).map (tmOf · vd) else none := by
            show (if tt = 32608 ∧ vv.length = 0 ∧ td = 24366 ∧ kd.len = 0 then (hdrT th vh kh).map (tmOf · vd) else none) = _
            by_cases h : td = 24366 ∧ kd.len = 0
            · rw [if_pos ⟨ht1, by rw [hvn']; exact ht2, h.1, h.2⟩, if_pos h]
            · rw [if_neg (fun h2 => h ⟨h2.2.2.1, h2.2.2.2⟩), if_neg h]
          rcases b2 with _ | _
          · have HTM := Lib.hid (show tmT tt vv (.cons th vh kh (.cons td vd kd .nil)) = none from by
              rw [htm]
              have h : hdrT th vh kh = none := by
                unfold hdrT
                by_cases h1 : th = 161 ∧ vh.length = 0
                · rw [if_pos h1]
                  rcases hq : numT hdrTags kh with _ | l
                  · rfl
                  · have h2 := (numT_len hq).2
                    have h3 : rPrim th hl nh 161 6 = true := (rcons_n (m := 6)).2 ⟨h1.1, by rw [← hnh]; exact h1.2, by rw [← hhl, h2]; rfl⟩
                    rw [hb2] at h3; cases h3
                · rw [if_neg h1]
              rw [h]
              split <;> rfl)
            clear hkok hkl hvn' hb1 hsk hxb1 hxr1 hxk1 hxb2 hxr2 ha2 hv2 hdb hnh hhl hC2 hC3 hhs1 hhs2 hz1' hz2' hh1 hh2 hb2 hb3 hxr1' hxr2' htm ht1 ht2
            have HD := Lib.hid (show lstT (.cons t v (.cons tc [cb] kc r) .nil) = none from by rw [HE.out, HO.out.2.2.2, HTM.out]; rfl)
            go_wp2_with (first
            | ((with_reducible refine at_load_ (d := 74) ?_); go_must (refine wpList_load_mid rfl 53 (.tmp 73) rfl kb (ko + jj * 3) rfl xs _ (HX0.out.1 _ HO.out.2.2.1) Try.underlying53 rfl HX0.out.2.1 ?_))
            | ((with_reducible refine at_alloc_ (d := 6) ?_); refine wpList_alloc_v (op := ⟨some 6, _, _, _, _, _⟩) rfl 53 rfl zerN info_n ?_; intro g6 w4 hf hr; have H4 := Lib.hid (show _ ∧ _ from ⟨hf, hr⟩); clear hf hr)
            | ((with_reducible refine at_store_ (i := 6) ?_); go_must (refine wpList_store_v rfl 53 (.tmp 6) (.tmp 74) rfl g6 zerN xs rfl rfl H4.out.2 HX0.out.2.2.2.1 HX0.out.2.2.2.2 HX0.out.2.1 ?_); intro w5 hw hr; have hb := H4.out.1.wr_bl hw; have H6 := Lib.hid (show Below w.heap.size w w5 ∧ RowV w5 g6 xs ∧ HeldT w w5 u4 LL ∧ wr.heap.size ≤ g6 from ⟨below_on HO.out.2.2.1 hb, hr, HO.out.2.1.on hb, by rw [H4.out.1.1]; exact Nat.le_refl _⟩); clear hw hr hb)
            | ((with_reducible refine at_load_ (d := 75) ?_); go_must (refine wpList_load_v rfl 53 (.tmp 6) rfl g6 rfl xs _ H6.out.2.1 Try.underlying53 rfl HX0.out.2.1 ?_))
            | (go_at_call 36; ((with_reducible refine (HX0.out.2.2.1 _).mono ?_); rintro e w7 ⟨rfl, hb⟩); have H7 := Lib.hid (show Below w.heap.size w w7 ∧ RowV w7 g6 xs ∧ HeldT w w7 u4 LL from ⟨below_on H6.out.1 hb, H6.out.2.1.on hb, H6.out.2.2.1.on hb⟩); have c6 := ((H6.out.2.1.on hb).cell 2).trans HZ6.out; clear hb)
            | ((with_reducible refine at_load_ (d := 82) ?_); go_must (refine wpList_load_midg (by rfl) 53 (.tmp 81) rfl xb xo rfl hs1 _ (HZ.out.1 _ H7.out.1) Try.underlying53 rfl HZ.out.2.2.1 ?_))
            | (go_at_call 36; ((with_reducible refine (HZ.out.2.2.2.2.1 _).mono ?_); rintro e w8 ⟨rfl, hb⟩); have H8 := Lib.hid (show Below w.heap.size w w8 ∧ RowV w8 g6 xs ∧ HeldT w w8 u4 LL from ⟨below_on H7.out.1 hb, H7.out.2.1.on hb, H7.out.2.2.on hb⟩); clear hb))
            go_ret2
            exact DecIs.bad HD.out H8.out.1
          obtain ⟨hh161, hnh0, rfl⟩ := (rcons_n (t := th) (lk := hl) (lv := nh) (m := 6) (tag := 161)).1 hb2
          rcases b3 with _ | _
          · have HTM := Lib.hid (show tmT tt vv (.cons th vh kh (.cons td vd kd .nil)) = none from by
              rw [htm, if_neg]
              intro h
              have h3 := rcons_iff (t := td) (lk := vd.length) (lv := kd.len) (tag := 24366) |>.2 h
              rw [hb3] at h3; cases h3)
            clear hkok hkl hvn' hb1 hsk hxb1 hxr1 hxk1 hxb2 hxr2 ha2 hv2 hdb hnh hhl hC2 hC3 hhs1 hhs2 hz1' hz2' hh1 hh2 hb2 hb3 hxr1' hxr2' htm ht1 ht2 hh161 hnh0
            have HD := Lib.hid (show lstT (.cons t v (.cons tc [cb] kc r) .nil) = none from by rw [HE.out, HO.out.2.2.2, HTM.out]; rfl)
            go_wp2_with (first
            | ((with_reducible refine at_load_ (d := 74) ?_); go_must (refine wpList_load_mid rfl 53 (.tmp 73) rfl kb (ko + jj * 3) rfl xs _ (HX0.out.1 _ HO.out.2.2.1) Try.underlying53 rfl HX0.out.2.1 ?_))
            | ((with_reducible refine at_alloc_ (d := 6) ?_); refine wpList_alloc_v (op := ⟨some 6, _, _, _, _, _⟩) rfl 53 rfl zerN info_n ?_; intro g6 w4 hf hr; have H4 := Lib.hid (show _ ∧ _ from ⟨hf, hr⟩); clear hf hr)
            | ((with_reducible refine at_store_ (i := 6) ?_); go_must (refine wpList_store_v rfl 53 (.tmp 6) (.tmp 74) rfl g6 zerN xs rfl rfl H4.out.2 HX0.out.2.2.2.1 HX0.out.2.2.2.2 HX0.out.2.1 ?_); intro w5 hw hr; have hb := H4.out.1.wr_bl hw; have H6 := Lib.hid (show Below w.heap.size w w5 ∧ RowV w5 g6 xs ∧ HeldT w w5 u4 LL ∧ wr.heap.size ≤ g6 from ⟨below_on HO.out.2.2.1 hb, hr, HO.out.2.1.on hb, by rw [H4.out.1.1]; exact Nat.le_refl _⟩); clear hw hr hb)
            | ((with_reducible refine at_load_ (d := 75) ?_); go_must (refine wpList_load_v rfl 53 (.tmp 6) rfl g6 rfl xs _ H6.out.2.1 Try.underlying53 rfl HX0.out.2.1 ?_))
            | (go_at_call 36; ((with_reducible refine (HX0.out.2.2.1 _).mono ?_); rintro e w7 ⟨rfl, hb⟩); have H7 := Lib.hid (show Below w.heap.size w w7 ∧ RowV w7 g6 xs ∧ HeldT w w7 u4 LL from ⟨below_on H6.out.1 hb, H6.out.2.1.on hb, H6.out.2.2.1.on hb⟩); have c6 := ((H6.out.2.1.on hb).cell 2).trans HZ6.out; clear hb)
            | ((with_reducible refine at_load_ (d := 82) ?_); go_must (refine wpList_load_midg (by rfl) 53 (.tmp 81) rfl xb xo rfl hs1 _ (HZ.out.1 _ H7.out.1) Try.underlying53 rfl HZ.out.2.2.1 ?_))
            | (go_at_call 36; ((with_reducible refine (HZ.out.2.2.2.2.1 _).mono ?_); rintro e w8 ⟨rfl, hb⟩); have H8 := Lib.hid (show Below w.heap.size w w8 ∧ RowV w8 g6 xs ∧ HeldT w w8 u4 LL from ⟨below_on H7.out.1 hb, H7.out.2.1.on hb, H7.out.2.2.on hb⟩); have c8 := ((H7.out.2.1.on hb).cell 2).trans HZ6.out; clear hb)
            | ((with_reducible refine at_load_ (d := 90) ?_); go_must (refine wpList_load_midg (by rfl) 53 (.tmp 89) rfl xb (xo + 3) rfl hs2 _ (HZ.out.2.1 _ H8.out.1) Try.underlying53 rfl HZ.out.2.2.2.1 ?_))
            | (go_at_call 37; ((with_reducible refine (HZ.out.2.2.2.2.2 _).mono ?_); rintro e w9 ⟨rfl, hb⟩); have H9 := Lib.hid (show Below w.heap.size w w9 ∧ RowV w9 g6 xs ∧ HeldT w w9 u4 LL from ⟨below_on H8.out.1 hb, H8.out.2.1.on hb, H8.out.2.2.on hb⟩); clear hb))
            go_ret2
            exact DecIs.bad HD.out H9.out.1
          have HTM := Lib.hid (show tmT tt vv (.cons th vh kh (.cons td vd kd .nil)) = (numT hdrTags kh).map (tmOf · vd) from by
            rw [htm, if_pos ((rcons_iff (t := td) (lk := vd.length) (lv := kd.len) (tag := 24366)).1 hb3)]
            unfold hdrT
            rw [if_pos ⟨hh161, by rw [hnh]; exact hnh0⟩])
          have HH6 := Lib.hid hhl
          clear hkok hkl hvn' hb1 hsk hxb1 hxr1 hxk1 hxb2 hxr2 ha2 hv2 hdb hnh hhl hC2 hC3 hhs1 hhs2 hz1' hz2' hh1 hh2 hb2 hb3 hxr1' hxr2' htm ht1 ht2 hh161 hnh0
          obtain ⟨wo, rfl⟩ : ∃ z, z = wr := ⟨_, rfl⟩
          obtain ⟨hb, ho, rfl⟩ : ∃ b o, D1 = some ⟨b, o, none⟩ := by
            obtain ⟨tt, vv, kk, e⟩ := F.drop_cons (f := kh) (j := 0) (by rw [HH6.out]; decide)
            obtain ⟨b, o, _, _, _, _, h, _⟩ := node_atN HXK.out.2.2.2 e
            exact ⟨b, o, h⟩
          have HOW := Lib.hid (show ∀ k, u4.ownBlock = some k → w.heap.size ≤ k ∧ k < wo.heap.size from by
            obtain ⟨cs, h1, _⟩ := HO.out.2.1
            exact own_lt3 h1)
          have hLL3 : LL.length ≤ 256 := by rw [HO.out.1]; omega
          go_wp2_with (first
            | ((with_reducible refine at_load_ (d := 74) ?_); go_must (refine wpList_load_mid rfl 53 (.tmp 73) rfl kb (ko + jj * 3) rfl xs _ (HX0.out.1 _ HO.out.2.2.1) Try.underlying53 rfl HX0.out.2.1 ?_))
            | ((with_reducible refine at_alloc_ (d := 6) ?_); refine wpList_alloc_v (op := ⟨some 6, _, _, _, _, _⟩) rfl 53 rfl zerN info_n ?_; intro g6 w4 hf hr; have H4 := Lib.hid (show _ ∧ _ from ⟨hf, hr⟩); clear hf hr)
            | ((with_reducible refine at_store_ (i := 6) ?_); go_must (refine wpList_store_v rfl 53 (.tmp 6) (.tmp 74) rfl g6 zerN xs rfl rfl H4.out.2 HX0.out.2.2.2.1 HX0.out.2.2.2.2 HX0.out.2.1 ?_); intro w5 hw hr; have hb := H4.out.1.wr_bl hw; have H6 := Lib.hid (show Below w.heap.size w w5 ∧ RowV w5 g6 xs ∧ Below wo.heap.size wo w5 ∧ wo.heap.size ≤ g6 from ⟨below_on HO.out.2.2.1 hb, hr, hb, by rw [H4.out.1.1]; exact Nat.le_refl _⟩); clear hw hr hb)
            | ((with_reducible refine at_load_ (d := 75) ?_); go_must (refine wpList_load_v rfl 53 (.tmp 6) rfl g6 rfl xs _ H6.out.2.1 Try.underlying53 rfl HX0.out.2.1 ?_))
            | (go_at_call 36; ((with_reducible refine (HX0.out.2.2.1 _).mono ?_); rintro e w7 ⟨rfl, hb⟩); have H7 := Lib.hid (show Below w.heap.size w w7 ∧ RowV w7 g6 xs ∧ Below wo.heap.size wo w7 from ⟨below_on H6.out.1 hb, H6.out.2.1.on hb, below_on H6.out.2.2.1 hb⟩); have c6 := ((H6.out.2.1.on hb).cell 2).trans HZ6.out; clear hb)
            | ((with_reducible refine at_load_ (d := 82) ?_); go_must (refine wpList_load_midg (by rfl) 53 (.tmp 81) rfl xb xo rfl hs1 _ (HZ.out.1 _ H7.out.1) Try.underlying53 rfl HZ.out.2.2.1 ?_))
            | (go_at_call 36; ((with_reducible refine (HZ.out.2.2.2.2.1 _).mono ?_); rintro e w8 ⟨rfl, hb⟩); have H8 := Lib.hid (show Below w.heap.size w w8 ∧ RowV w8 g6 xs ∧ Below wo.heap.size wo w8 from ⟨below_on H7.out.1 hb, H7.out.2.1.on hb, below_on H7.out.2.2 hb⟩); have c8 := ((H7.out.2.1.on hb).cell 2).trans HZ6.out; clear hb)
            | ((with_reducible refine at_load_ (d := 90) ?_); go_must (refine wpList_load_midg (by rfl) 53 (.tmp 89) rfl xb (xo + 3) rfl hs2 _ (HZ.out.2.1 _ H8.out.1) Try.underlying53 rfl HZ.out.2.2.2.1 ?_))
            | (go_at_call 37; ((with_reducible refine (HZ.out.2.2.2.2.2 _).mono ?_); rintro e w9 ⟨rfl, hb⟩); have H9 := Lib.hid (show Below w.heap.size w w9 ∧ RowV w9 g6 xs ∧ Below wo.heap.size wo w9 from ⟨below_on H8.out.1 hb, H8.out.2.1.on hb, below_on H8.out.2.2 hb⟩); clear hb)
            | ((with_reducible refine at_alloc_ (d := 7) ?_); refine wpList_alloc_v (op := ⟨some 7, _, _, _, _, _⟩) rfl 61 rfl zer6 info_6 ?_; intro g7 w10 hf hr; have H10 := Lib.hid (show Below w.heap.size w w10 ∧ RowV w10 g6 xs ∧ Below wo.heap.size wo w10 ∧ RowV w10 g7 (numC []) ∧ g6 < g7 ∧ w.heap.size ≤ g7 from ⟨hf.bl H9.out.1, H9.out.2.1.fresh hf, hf.bl H9.out.2.2, hr, Nat.lt_of_lt_of_eq H9.out.2.1.lt hf.1.symm, hf.ge H9.out.1⟩); clear hf hr))
          have HNE := Lib.hid (show ∀ k, u4.ownBlock = some k → k ≠ g7 ∧ k ≠ g6 from fun k e => by
            have h1 := (HOW.out k e).2
            have h2 := H6.out.2.2.2
            have h3 := H10.out.2.2.2.2.1
            exact ⟨by omega, by omega⟩)
          have HG := Lib.hid (show g6 < g7 ∧ w.heap.size ≤ g7 ∧ wo.heap.size ≤ g7 from ⟨H10.out.2.2.2.2.1, H10.out.2.2.2.2.2, Nat.le_trans H6.out.2.2.2 (Nat.le_of_lt H10.out.2.2.2.2.1)⟩)
          have HT := Lib.hid (show _ ∧ _ ∧ _ ∧ _ from ⟨H10.out.1, H10.out.2.1, H10.out.2.2.1, H10.out.2.2.2.1⟩)
          clear H4 H6 H7 H8 H9 H10 c6 c8 c0
          go_loopw [8] (fun i wq => ∃ (m : Nat), m ≤ 6 ∧ i = .int .i64 (m : Int) ∧ Hid (∃ N : List Nat, N.length = m ∧ RowV wq g7 (numC N) ∧ RowV wq g6 xs ∧ Below wo.heap.size wo wq ∧ Below w.heap.size w wq ∧ numT hdrTags kh = (numT (hdrTags.drop m) (kh.drop m)).map (N ++ ·))) (fun i _ => 6 - (intOf i).toNat)
          case atStart => exact ⟨0, by omega, rfl, Lib.hid ⟨[], rfl, HT.out.2.2.2, HT.out.2.1, HT.out.2.2.1, HT.out.1, by
            have e : kh.drop 0 = kh := by cases kh <;> rfl
            rw [List.drop_zero, e]
            rcases numT hdrTags kh with _ | l <;> rfl⟩⟩
          case round =>
            obtain ⟨m, hm, rfl, HR⟩ := hrel
            obtain ⟨N, hN, hr7, hr6, hhe, hbw, hnum⟩ := HR.out
            have HN := Lib.hid (show _ ∧ _ ∧ _ ∧ _ ∧ _ ∧ _ from ⟨hN, hr7, hr6, hhe, hbw, hnum⟩)
            have c6 := (hr6.cell 2).trans HZ6.out
            clear HR hN hr7 hr6 hhe hnum
            by_cases hlt6 : m < 6
            · have dm : decide ((m : Int) < 6) = true := by simp; omega
              have c7 := HHC.out.1 _ hbw
              obtain ⟨tg, sz, hna, hit, his⟩ := ref_at hlt6
              have hsz := (hdr_tag hna).2.2.2
              obtain ⟨t3, v3, k3, hdk⟩ := F.drop_cons (f := kh) (j := m) (by rw [HH6.out]; exact hlt6)
              obtain ⟨hb', ho', A3, c3, B3, d3, e', hob, hor, ha3, _, _, hsv3, _⟩ := node_atN HXK.out.2.2.2 hdk
              injection e' with e'
              injection e' with e1 e2 _
              subst e1; subst e2
              obtain ⟨n3, hn3⟩ : ∃ n, v3.length = n := ⟨_, rfl⟩
              have hstep := numT_step hna hdk
              have hop := fun cur => r13_prim t3 A3 n3 c3 B3 k3.len d3 tg (sz : Int) cur
              rw [hn3] at hor
              obtain ⟨ns, hns⟩ : ∃ q, nodV t3 A3 n3 c3 B3 k3.len d3 = q := ⟨_, rfl⟩
              have hns1 : (Try.prog.info? 53).map (·.size) = some ns.length := by rw [← hns]; exact size_n
              have hns2 : ns[1]? = some (.slice A3 n3 c3) := by rw [← hns]; rfl
              have hns3 : ns.length = zerN.length := by rw [← hns]; rfl
              have hns4 : ∀ u ∈ ns, u.oneCell' = true := by rw [← hns]; exact nodV_one _ _ _ _ _ _ _
              rw [hns] at hor hop
              obtain ⟨ok, hokk⟩ : ∃ z, rPrim t3 n3 k3.len tg sz = z := ⟨_, rfl⟩
              rw [hokk] at hop
              have hor2 := fun cur (h : Below w.heap.size w cur) => rangeAt_on hor hob h
              have hiff : ok = true ↔ onB t3 v3 k3.len tg sz = true := by
                rw [← hokk, rcons_n, onB_iff, hn3]
              have hnum3 : ok = true → ∀ cur, Below w.heap.size w cur → Calls Try.prog 38 #[.slice A3 n3 c3] cur fun e w' => e = .returned (.tuple #[.int .i64 ((numL v3 : Nat) : Int), .int .i64 0]) ∧ cur = w' := fun h cur hbc =>
                r_numberB v3 n3 hn3 (by have := (rcons_n.1 (hokk.trans h)).2.2; omega) A3 c3 cur (SeesP.on2 hsv3 hbc)
              obtain ⟨nv, hnv⟩ : ∃ z, numL v3 = z := ⟨_, rfl⟩
              rw [hnv] at hstep hnum3
              have HY := Lib.hid (show _ ∧ _ ∧ _ ∧ _ ∧ _ ∧ _ ∧ _ ∧ _ from ⟨hns1, hit, his, hop, hor2, hns3, hns4, hns2⟩)
              have HV := Lib.hid (show _ ∧ _ ∧ _ from ⟨hstep, hiff, hnum3⟩)
              clear hna hit his hsz hdk hob hor ha3 hsv3 hstep hop hns hns1 hns2 hns3 hns4 hokk hor2 hiff hnum3 hnv hbw hn3
              go_wp2_with (first
                | ((with_reducible refine at_load_ (d := 105) ?_); go_must (refine wpList_load_mid rfl 53 (.tmp 104) rfl hb (ho + m * 3) rfl ns _ (HY.out.2.2.2.2.1 _ HN.out.2.2.2.2.1) Try.underlying53 rfl HY.out.1 ?_))
                | ((with_reducible refine at_alloc_ (d := 9) ?_); refine wpList_alloc_v (op := ⟨some 9, _, _, _, _, _⟩) rfl 53 rfl zerN info_n ?_; intro g9 w11 hf hr; have H11 := Lib.hid (show _ ∧ _ from ⟨hf, hr⟩); clear hf hr)
                | ((with_reducible refine at_store_ (i := 9) ?_); go_must (refine wpList_store_v rfl 53 (.tmp 9) (.tmp 105) rfl g9 zerN ns rfl rfl H11.out.2 HY.out.2.2.2.2.2.1 HY.out.2.2.2.2.2.2.1 HY.out.1 ?_); intro wq2 hw hr; have hb := H11.out.1.wr_bl hw; go_must (have HQ := Lib.hid (show Below w.heap.size w wq2 ∧ RowV wq2 g9 ns from ⟨below_on HN.out.2.2.2.2.1 hb, hr⟩)); go_must (have HQ2 := Lib.hid (show RowV wq2 g7 (numC N) ∧ RowV wq2 g6 xs ∧ Below wo.heap.size wo wq2 from ⟨HN.out.2.1.on hb, HN.out.2.2.1.on hb, below_on HN.out.2.2.2.1 hb⟩)); clear hw hr hb))
              clear H11 c6 c7
              refine region_facts (by kernel_rfl) _ wq2 (fun c => Below wq2.heap.size wq2 c) 99 (factL [fun u _ => u = .agg ns.toArray, fun u _ => u = .agg tagsV.toArray, fun u _ => u = .int .i64 (m : Int), fun u _ => u = .int .i64 tg, fun u _ => u = .agg sizsV.toArray, fun u _ => u = .int .i64 (m : Int), fun u _ => u = .int .i64 (sz : Int), fun u _ => u = .bool ok, fun u _ => u = .bool (!ok)]) (by kernel_rfl) (firm_list (by simp only [List.forall_mem_cons]; exact ⟨firm_eq _, firm_eq _, firm_eq _, firm_eq _, firm_eq _, firm_eq _, firm_eq _, firm_eq _, firm_eq _, fun X h => by cases h⟩)) (fun c c' h hb => below_on h hb) (Below.refl _ _) (Below.refl _ _) ?_ ?_
              · refine ops_all (allI.cons ?_ (allI.cons ?_ (allI.cons ?_ (allI.cons ?_ (allI.cons ?_ (allI.cons ?_ (allI.cons ?_ (allI.cons ?_ (allI.cons ?_ allI.nil))))))))) <;> intro v S c a hI hw1 hX hSi hdep hS hC
                · exact wp_load_mid 53 (.tmp 9) rfl g9 0 (hS.old 9 rfl) ns _ (HQ.out.2.on hI).whole Try.underlying53 rfl HY.out.1 (Step.still rfl)
                · exact o_bld _ _ rfl (peN6 rfl rfl rfl rfl rfl rfl) blt_tags (Step.still rfl)
                · exact o_mv _ rfl (hS.old 8 rfl) (Step.still rfl)
                · exact o_ixv _ (.tmp 107) (.tmp 108) rfl ((hS.get 1 (dep_at hdep 1 rfl) rfl rfl).trans (hX 1 (dep_at hdep 1 rfl))) ((hS.get 2 (dep_at hdep 2 rfl) rfl rfl).trans (hX 2 (dep_at hdep 2 rfl))) (HY.out.2.1 _) (Step.still rfl)
                · exact o_bld _ _ rfl (peN6 rfl rfl rfl rfl rfl rfl) blt_sizs (Step.still rfl)
                · exact o_mv _ rfl (hS.old 8 rfl) (Step.still rfl)
                · exact o_ixv _ (.tmp 110) (.tmp 111) rfl ((hS.get 4 (dep_at hdep 4 rfl) rfl rfl).trans (hX 4 (dep_at hdep 4 rfl))) ((hS.get 5 (dep_at hdep 5 rfl) rfl rfl).trans (hX 5 (dep_at hdep 5 rfl))) (HY.out.2.2.1 _) (Step.still rfl)
                · refine o_callV (.func 37) 37 #[.tmp 106, .tmp 109, .tmp 112] _ rfl rfl (ev3 ((hS.get 0 (dep_at hdep 0 rfl) rfl rfl).trans (hX 0 (dep_at hdep 0 rfl))) ((hS.get 3 (dep_at hdep 3 rfl) rfl rfl).trans (hX 3 (dep_at hdep 3 rfl))) ((hS.get 6 (dep_at hdep 6 rfl) rfl rfl).trans (hX 6 (dep_at hdep 6 rfl)))) (by kernel_rfl) (HY.out.2.2.2.1 c) (fun e w9 h => ?_)
                  obtain ⟨rfl, b8⟩ := h
                  exact ⟨_, rfl, Step.new rfl b8⟩
                · exact o_not _ (.tmp 113) rfl ((hS.get 7 (dep_at hdep 7 rfl) rfl rfl).trans (hX 7 (dep_at hdep 7 rfl))) (Step.still rfl)
              · intro v8 w12 hI hX
                have e8 := hX 8 (by decide)
                change v8 8 = _ at e8
                have HQ3 := Lib.hid (show Below w.heap.size w w12 ∧ RowV w12 g7 (numC N) ∧ RowV w12 g6 xs ∧ Below wo.heap.size wo w12 ∧ RowV w12 g9 ns from ⟨below_on HQ.out.1 hI, HQ2.out.1.on hI, HQ2.out.2.1.on hI, below_on HQ2.out.2.2 hI, HQ.out.2.on hI⟩)
                have c9 := ((HQ.out.2.on hI).cell 1).trans HY.out.2.2.2.2.2.2.2
                clear hI hX
                simp only [putAll, Act.put]
                simp
                rw [e8]
                clear e8
                rcases ok with _ | _
                · have HD := Lib.hid (show lstT (.cons t v (.cons tc [cb] kc r) .nil) = none from by
                    rw [HE.out, HO.out.2.2.2, HTM.out, HN.out.2.2.2.2.2, HV.out.1, if_neg (fun h => by have := HV.out.2.1.2 h; cases this)]; rfl)
                  clear c9
                  go_wp2
                  go_ret2
                  exact DecIs.bad HD.out HQ3.out.1
                · have HPS := Lib.hid (numC_set (m := nv) HN.out.1 hlt6)
                  have HNV := Lib.hid (HV.out.2.2 rfl _ HQ3.out.1)
                  have HPL := Lib.hid (show m < (numC N).length from hlt6)
                  have HF := Lib.hid (show numT hdrTags kh = (numT (hdrTags.drop (m + 1)) (kh.drop (m + 1))).map ((N ++ [nv]) ++ ·) from by
                    rw [HN.out.2.2.2.2.2, HV.out.1, if_pos (HV.out.2.1.1 rfl)]
                    rcases numT (hdrTags.drop (m + 1)) (kh.drop (m + 1)) with _ | l <;> simp)
                  have HWR := Lib.hid (show ∀ w13, Wr w12 w13 g7 → Below w.heap.size w w13 ∧ RowV w13 g6 xs ∧ Below wo.heap.size wo w13 from fun w13 hw => ⟨Wr.bl HQ3.out.1 hw HG.out.2.1, HQ3.out.2.2.1.wr hw (Nat.ne_of_lt HG.out.1), Wr.bl HQ3.out.2.2.2.1 hw HG.out.2.2⟩)
                  go_wp2_with (first
                    | (go_at_call 38; ((with_reducible refine HNV.out.mono ?_); rintro e w13 ⟨rfl, rfl⟩))
                    | ((with_reducible refine at_store_ (i := 122) ?_); go_must (refine wpList_store_at rfl 3 (.tmp 122) (.tmp 120) rfl g7 m (numC N) (.int .i64 (nv : Int)) rfl rfl HQ3.out.2.1 HPL.out rfl rfl size_i ?_); intro w14 hw hr; have H14 := Lib.hid (show _ ∧ _ from ⟨HPS.out ▸ hr, HWR.out _ hw⟩); clear hw hr))
                  go_roundw
                  case rel => exact ⟨m + 1, by omega, by first | rfl | go_num, Lib.hid ⟨N ++ [nv], by simp [HN.out.1], H14.out.1, H14.out.2.2.1, H14.out.2.2.2, H14.out.2.1, HF.out⟩⟩
                  case measure => simp [intOf]; omega
            · obtain rfl : m = 6 := by omega
              have dm : decide ((6 : Int) < 6) = false := by simp
              have hkn : kh.drop 6 = .nil := by have h := F.drop_all kh; rw [HH6.out] at h; exact h
              have hnum2 : numT hdrTags kh = some N := by
                rw [HN.out.2.2.2.2.2, hkn]
                show (some [] : Option (List Nat)).map (N ++ ·) = _
                simp
              have HF := Lib.hid (show tmsT r = (tmsT ((F.cons tc [cb] kc r).drop (jj + 1))).map ((LL ++ [tmOf N vd]) ++ ·) from by
                rw [HO.out.2.2.2, HTM.out, hnum2]
                show Option.map _ (match some (tmOf N vd) with | none => none | some x => (tmsT ((F.cons tc [cb] kc r).drop (jj + 1))).map (x :: ·)) = _
                simp only
                rcases tmsT ((F.cons tc [cb] kc r).drop (jj + 1)) with _ | l <;> simp)
              have H5 := Lib.hid (HO.out.2.1.on HN.out.2.2.2.1)
              have HWL := Lib.hid HN.out.2.2.2.2.1.size
              have HB5 := Lib.hid HN.out.2.2.2.2.1
              have H57 := Lib.hid (show _ ∧ _ from ⟨HN.out.2.1, HN.out.2.2.1⟩)
              have HX := Lib.hid (show _ ∧ _ ∧ _ ∧ _ ∧ _ from ⟨HZ6.out, HHC.out.2, HXK.out.1, HXK.out.2.1, HXK.out.2.2.1⟩)
              have HLL := Lib.hid (show LL.length = jj - 1 from HO.out.1)
              obtain ⟨w5, hw5⟩ : ∃ z, z = wr := ⟨_, rfl⟩
              subst hw5
              clear HG HN HO HZ HHC HXK HH6 HTM HX0 c6 hbw hnum2 hkn
              go_wp2_with fail
              refine region_facts (by kernel_rfl) _ w5 (fun c => Below w.heap.size w c ∧ RowV c g7 (numC N) ∧ RowV c g6 xs ∧ w5.heap.size ≤ c.heap.size) 21 (factL [fun u _ => u = u4, fun u _ => u = .pointer (some ⟨g7, 0, none⟩), fun u _ => u = .int .i64 (N.getD 0 0 : Nat), fun u _ => u = .pointer (some ⟨g7, 1, none⟩), fun u _ => u = .int .i64 (N.getD 1 0 : Nat), fun u _ => u = .pointer (some ⟨g7, 2, none⟩), fun u _ => u = .int .i64 (N.getD 2 0 : Nat), fun u _ => u = .pointer (some ⟨g7, 3, none⟩), fun u _ => u = .int .i64 (N.getD 3 0 : Nat), fun u _ => u = .pointer (some ⟨g7, 4, none⟩), fun u _ => u = .int .i64 (N.getD 4 0 : Nat), fun u _ => u = .pointer (some ⟨g7, 5, none⟩), fun u _ => u = .int .i64 (N.getD 5 0 : Nat), fun u _ => u = .pointer (some ⟨g6, 2, none⟩), fun u _ => u = .slice (some ⟨xb, xo, none⟩) 2 ck', fun u _ => u = .pointer (some ⟨xb, xo + 3, none⟩), fun u _ => u = .pointer (some ⟨xb, xo + 3 + 1, none⟩), fun u _ => u = .slice C2 vd.length e2, BytF w5 vd vd.length, TmF w5 (tmOf N vd), TmS w5 (tmOf N vd), HelT w (LL ++ [tmOf N vd]), HelT w (LL ++ [tmOf N vd])]) (by kernel_rfl) (firm_list (by simp only [List.forall_mem_cons]; exact ⟨firm_eq _, firm_eq _, firm_eq _, firm_eq _, firm_eq _, firm_eq _, firm_eq _, firm_eq _, firm_eq _, firm_eq _, firm_eq _, firm_eq _, firm_eq _, firm_eq _, firm_eq _, firm_eq _, firm_eq _, firm_eq _, BytF.firm _ _ _, TmF.firm _ _, TmS.firm _ _, HelT.firm _ _, HelT.firm _ _, fun X h => by cases h⟩)) (fun c c' h hb => ⟨below_on h.1 hb, h.2.1.on hb, h.2.2.1.on hb, Nat.le_trans h.2.2.2 hb.size⟩) (Below.refl _ _) ⟨HB5.out, H57.out.1, H57.out.2, Nat.le_refl _⟩ ?_ ?_
              · refine ops_all (allI.cons ?_ (allI.cons ?_ (allI.cons ?_ (allI.cons ?_ (allI.cons ?_ (allI.cons ?_ (allI.cons ?_ (allI.cons ?_ (allI.cons ?_ (allI.cons ?_ (allI.cons ?_ (allI.cons ?_ (allI.cons ?_ (allI.cons ?_ (allI.cons ?_ (allI.cons ?_ (allI.cons ?_ (allI.cons ?_ (allI.cons ?_ (allI.cons ?_ (allI.cons ?_ (allI.cons ?_ (allI.cons ?_ allI.nil))))))))))))))))))))))) <;> intro v S c a hI hw1 hX hSi hdep hS hC
                · exact o_mv _ rfl (hS.before hC hSi 4 rfl) (Step.still rfl)
                · exact o_ix _ (.tmp 7) (.const (.int .i64 0)) rfl (hS.old 7 rfl) rfl (ix_six g7 0 (by decide) _) (Step.still rfl)
                · exact o_ld _ (.tmp 124) rfl ((hS.get 1 (dep_at hdep 1 rfl) rfl rfl).trans (hX 1 (dep_at hdep 1 rfl))) ((hI.2.1.cell 0).trans rfl) ag_i (Step.still rfl)
                · exact o_ix _ (.tmp 7) (.const (.int .i64 1)) rfl (hS.old 7 rfl) rfl (ix_six g7 1 (by decide) _) (Step.still rfl)
                · exact o_ld _ (.tmp 126) rfl ((hS.get 3 (dep_at hdep 3 rfl) rfl rfl).trans (hX 3 (dep_at hdep 3 rfl))) ((hI.2.1.cell 1).trans rfl) ag_i (Step.still rfl)
                · exact o_ix _ (.tmp 7) (.const (.int .i64 2)) rfl (hS.old 7 rfl) rfl (ix_six g7 2 (by decide) _) (Step.still rfl)
                · exact o_ld _ (.tmp 128) rfl ((hS.get 5 (dep_at hdep 5 rfl) rfl rfl).trans (hX 5 (dep_at hdep 5 rfl))) ((hI.2.1.cell 2).trans rfl) ag_i (Step.still rfl)
                · exact o_ix _ (.tmp 7) (.const (.int .i64 3)) rfl (hS.old 7 rfl) rfl (ix_six g7 3 (by decide) _) (Step.still rfl)
                · exact o_ld _ (.tmp 130) rfl ((hS.get 7 (dep_at hdep 7 rfl) rfl rfl).trans (hX 7 (dep_at hdep 7 rfl))) ((hI.2.1.cell 3).trans rfl) ag_i (Step.still rfl)
                · exact o_ix _ (.tmp 7) (.const (.int .i64 4)) rfl (hS.old 7 rfl) rfl (ix_six g7 4 (by decide) _) (Step.still rfl)
                · exact o_ld _ (.tmp 132) rfl ((hS.get 9 (dep_at hdep 9 rfl) rfl rfl).trans (hX 9 (dep_at hdep 9 rfl))) ((hI.2.1.cell 4).trans rfl) ag_i (Step.still rfl)
                · exact o_ix _ (.tmp 7) (.const (.int .i64 5)) rfl (hS.old 7 rfl) rfl (ix_six g7 5 (by decide) _) (Step.still rfl)
                · exact o_ld _ (.tmp 134) rfl ((hS.get 11 (dep_at hdep 11 rfl) rfl rfl).trans (hX 11 (dep_at hdep 11 rfl))) ((hI.2.1.cell 5).trans rfl) ag_i (Step.still rfl)
                · exact o_fa _ (.tmp 6) 2 rfl (hS.old 6 rfl) (fa_n2 g6 _) (Step.still rfl)
                · exact o_ld _ (.tmp 136) rfl ((hS.get 13 (dep_at hdep 13 rfl) rfl rfl).trans (hX 13 (dep_at hdep 13 rfl))) ((hI.2.2.1.cell 2).trans HX.out.1) ag_ns (Step.still rfl)
                · exact o_ix _ (.tmp 137) (.const (.int .i64 1)) rfl ((hS.get 14 (dep_at hdep 14 rfl) rfl rfl).trans (hX 14 (dep_at hdep 14 rfl))) rfl (ix_nod1 xb xo 2 ck' (by decide) _) (Step.still rfl)
                · exact o_fa _ (.tmp 138) 1 rfl ((hS.get 15 (dep_at hdep 15 rfl) rfl rfl).trans (hX 15 (dep_at hdep 15 rfl))) (fa_nO1 xb (xo + 3) _) (Step.still rfl)
                · exact o_ld _ (.tmp 139) rfl ((hS.get 16 (dep_at hdep 16 rfl) rfl rfl).trans (hX 16 (dep_at hdep 16 rfl))) (HX.out.2.1 _ hI.1) ag_s (Step.still rfl)
                · exact o_appb (.tmp 140) _ rfl 5 i1 (.int .u8 0) Try.underlying25 hi1 hy0 hy1 hy2 rfl C2 e2 vd vd.length rfl (· < c.heap.size) ((hS.get 17 (dep_at hdep 17 rfl) rfl rfl).trans (hX 17 (dep_at hdep 17 rfl))) HX.out.2.2.1 (SeesP.on2 HX.out.2.2.2.1 hI.1) HX.out.2.2.2.2 (fun A' c' w9 h1 h2 hb => Step.new ⟨A', c', rfl, h1, h2.imp fun b hb2 => newB_imp (w := w5) hb2 hI.2.2.2 (Nat.le_refl _)⟩ hb)
                · obtain ⟨A9, c9, e9, h9, s9⟩ := (hX 18 (dep_at hdep 18 rfl))
                  refine o_bld _ _ rfl (peT ((hS.get 2 (dep_at hdep 2 rfl) rfl rfl).trans (hX 2 (dep_at hdep 2 rfl))) ((hS.get 4 (dep_at hdep 4 rfl) rfl rfl).trans (hX 4 (dep_at hdep 4 rfl))) ((hS.get 6 (dep_at hdep 6 rfl) rfl rfl).trans (hX 6 (dep_at hdep 6 rfl))) ((hS.get 8 (dep_at hdep 8 rfl) rfl rfl).trans (hX 8 (dep_at hdep 8 rfl))) ((hS.get 10 (dep_at hdep 10 rfl) rfl rfl).trans (hX 10 (dep_at hdep 10 rfl))) ((hS.get 12 (dep_at hdep 12 rfl) rfl rfl).trans (hX 12 (dep_at hdep 12 rfl))) ((hS.get 18 (dep_at hdep 18 rfl) rfl rfl).trans e9)) (vs := (tmOf N vd).cs A9 c9) (blt_tm _ _ _ _ _ _ _ _ _) ?_
                  exact Step.still ⟨A9, c9, rfl, h9, s9⟩
                · obtain ⟨A9, c9, e9, h9, s9⟩ := (hX 19 (dep_at hdep 19 rfl))
                  refine o_bsl _ 27 1 _ rfl Try.underlying22 (pe1 ((hS.get 19 (dep_at hdep 19 rfl) rfl rfl).trans e9)) (vs := (tmOf N vd).cs A9 c9) (bst1 _ _ _ _ _ _ _ _ _) ?_
                  intro g w9 hf hr
                  exact Step.new ⟨A9, c9, g, rfl, ⟨by rw [hf.1]; exact hI.2.2.2, hr.lt⟩, hr, h9, s9.newOn hf.bw⟩ hf.bw
                · obtain ⟨A9, c9, g, e9, h0, hr, h9, s9⟩ := (hX 20 (dep_at hdep 20 rfl))
                  obtain ⟨cs, hc1, hc2⟩ := H5.out
                  have hold := own_lt3 hc1
                  have hB := hw1 hSi
                  refine wp_append_lies _ (.tmp 123) (.tmp 143) 22 rfl w.heap.size 27 i0 _ 7 72 Try.underlying22 hi hz0 hz1 hz2 rfl (by decide) u4 LL.length cs ((hS.get 0 (dep_at hdep 0 rfl) rfl rfl).trans (hX 0 (dep_at hdep 0 rfl))) (own3_on hc1 hB) ⟨g, 0, none⟩ 1 1 ((tmOf N vd).cs A9 c9) ((hS.get 20 (dep_at hdep 20 rfl) rfl rfl).trans e9) rfl hr.src (cs_one _ _ _) (by decide) (by unfold maxLen; omega) (by omega) (Nat.le_trans HWL.out hI.2.2.2) _ rfl ?_
                  intro g' cap' w' ho hg hl hlt
                  refine Step.turn (HeldT.snoc (wr := w5) (w1 := c) (wa := c) (x := tmOf N vd) hB (Below.refl _ _) h9 s9 HWL.out cs hc1 hc2 rfl ho hg hl) rfl ⟨row_below hI.1 hg fun k e => (HOW.out k e).1, hI.2.1.same (hg.block _ hI.2.1.lt fun e => HNE.out _ e.symm |>.1 rfl), hI.2.2.1.same (hg.block _ hI.2.2.1.lt fun e => HNE.out _ e.symm |>.2 rfl), Nat.le_trans hI.2.2.2 hg.size⟩ ?_
                  intro j hj
                  match j, hj with
                  | 0, hj => exact hX 0 hj
                  | 1, hj => exact hX 1 hj
                  | 2, hj => exact hX 2 hj
                  | 3, hj => exact hX 3 hj
                  | 4, hj => exact hX 4 hj
                  | 5, hj => exact hX 5 hj
                  | 6, hj => exact hX 6 hj
                  | 7, hj => exact hX 7 hj
                  | 8, hj => exact hX 8 hj
                  | 9, hj => exact hX 9 hj
                  | 10, hj => exact hX 10 hj
                  | 11, hj => exact hX 11 hj
                  | 12, hj => exact hX 12 hj
                  | 13, hj => exact hX 13 hj
                  | 14, hj => exact hX 14 hj
                  | 15, hj => exact hX 15 hj
                  | 16, hj => exact hX 16 hj
                  | 17, hj => exact hX 17 hj
                  | 18, hj => exact BytF.row (hX 18 hj) hg fun k e => (hold k e).2
                  | 19, hj => exact TmF.row (hX 19 hj) hg fun k e => (hold k e).2
                  | 20, hj => exact TmS.row (hX 20 hj) hg fun k e => (hold k e).2
                  | 21, hj => rw [hSi] at hj; cases hj
                  | 22, hj =>
                    have := dep_at (hC 22 _ rfl hj) 21 rfl
                    rw [hSi] at this
                    cases this
                  | _ + 23, _ => trivial
                · exact o_as _ rfl (hS.get 21 (dep_at hdep 21 rfl) rfl rfl) (Step.still (hX 21 (dep_at hdep 21 rfl)))
              · intro v18 w8 hI hX
                have e22 : HelT w (LL ++ [tmOf N vd]) (v18 22) w8 := hX 22 (by decide)
                obtain ⟨u, hu⟩ : ∃ z, v18 22 = z := ⟨_, rfl⟩
                rw [hu] at e22
                have H8 := Lib.hid (show Below w.heap.size w w8 ∧ HeldT w w8 u (LL ++ [tmOf N vd]) from ⟨hI.1, e22⟩)
                clear hI hX e22
                simp only [putAll, Act.put]
                simp
                rw [hu]
                clear hu
                go_wp2_with fail
                go_roundw
                case rel => exact ⟨jj + 1, by omega, by omega, by first | rfl | go_num, Lib.hid ⟨LL ++ [tmOf N vd], by rw [List.length_append, HLL.out]; show jj - 1 + 1 = _; omega, H8.out.2, H8.out.1, HF.out⟩⟩
                case measure => simp [intOf]; omega
        · obtain rfl : lk = jj := by omega
          have dj : decide ((lk : Int) < (lk : Int)) = false := by simp
          have hdn : (F.cons tc [cb] kc r).drop lk = .nil := by have h := F.drop_all (F.cons tc [cb] kc r); rw [HS.out.2.1] at h; exact h
          have htm2 : tmsT r = some LL := by
            rw [htms, hdn]
            show (some [] : Option (List Tm)).map (LL ++ ·) = _
            simp
          obtain ⟨n4, hn4⟩ : ∃ z, LL.length = z := ⟨_, rfl⟩
          obtain ⟨A4, c4, hu4, hsT⟩ := hheld.slice
          rw [hn4] at hu4
          subst hu4
          have hen := r_encode LL n4 hn4 A4 c4 wr (hsT.imp fun b hb => newB_lt hb)
          unfold EncIs at hen
          obtain ⟨z4, hz4⟩ : ∃ z, (encF LL).len = z := ⟨_, rfl⟩
          obtain ⟨q, hq⟩ : ∃ z, encE LL = z := ⟨_, rfl⟩
          have HQ := Lib.hid (show decE (.cons t v (.cons tc [cb] kc r) .nil) = q ∧ (q = 0 → decV (.cons t v (.cons tc [cb] kc r) .nil) = LL) ∧ (q ≠ 0 → decV (.cons t v (.cons tc [cb] kc r) .nil) = []) from by
            unfold decE decV
            rw [HE.out, htm2]
            simp only [hq]
            exact ⟨trivial, fun h => if_pos h, fun h => if_neg h⟩)
          rw [hz4, hq] at hen
          have HEN := Lib.hid hen
          have HT := Lib.hid hheld
          have HBW := Lib.hid hbw
          have HN4 := Lib.hid hn4
          clear HJ hLL hheld htms hdn htm2 hsT hen hz4 hq hn4 hbw
          by_cases hq0 : q = 0
          · subst hq0
            go_wp2_with (first
              | (go_at_call 14; ((with_reducible refine HEN.out.mono ?_); rintro e w7 ⟨A5, c5, rfl, hle, hs5, hb⟩); have H7 := Lib.hid (show Below w.heap.size w w7 ∧ HeldT w w7 (.slice A4 n4 c4) LL from ⟨below_on HBW.out hb, HT.out.on hb⟩); clear hle hs5 hb))
            go_ret2
            obtain ⟨A6, c6, e6, s6⟩ := H7.out.2.slice
            rw [HN4.out] at e6
            injection e6 with e6 _ e7
            subst e6; subst e7
            exact DecIs.mk2 HQ.out.1 (HQ.out.2.1 (by first | trivial | rfl)) HN4.out s6 H7.out.1
          · have dq : (q != 0) = true := by simp; exact hq0
            go_wp2_with (first
              | (go_at_call 14; ((with_reducible refine HEN.out.mono ?_); rintro e w7 ⟨A5, c5, rfl, hle, hs5, hb⟩); have H7 := Lib.hid (show Below w.heap.size w w7 ∧ HeldT w w7 (.slice A4 n4 c4) LL from ⟨below_on HBW.out hb, HT.out.on hb⟩); clear hle hs5 hb))
            go_ret2
            exact DecIs.mk2 HQ.out.1 (HQ.out.2.2 hq0) rfl SeesT.nil_ H7.out.1
    · have dq : ((cn : Int) != (lk : Int) - 1) = true := by simp; omega
      have dw : wrap64 ((lk : Int) - 1) = (lk : Int) - 1 := by unfold wrap64; omega
      have HD := Lib.hid (show lstT (.cons t v (.cons tc [cb] kc r) .nil) = none from by rw [hlst]; simp [hcq])
      clear hgt hs hn hok hkc hlk hk hlb h0 hq hkb hkr hnc hO hn1 hn3 hn4 hokk hgo hlst hr2 hr4 hvb hvcell hcn hnum hvc hlkq hcq
      go_enter Try.func18, Try.ntmps18
      go_wp2_with fail
      have q1 := quiet_up (w := w) fun w' _ => HU.out.2.2.1 w'
      have q2 := quiet_up (w := w) fun w' _ => HK.out.2.2.1 w'
      have ix0 := fun w => ix_nod0 lb lo 1 c (by decide) w
      have ix1 := fun w => ix_nod0 kb ko lk ck hlk0 w
      have c2 := cell_up (w := w) HU.out.2.2.2
      have c4 := cell_up (w := w) HK.out.2.2.2
      have c5 := cell_up (w := w) HVC.out
      refine wp_region_quiet_below (by kernel_rfl) (by kernel_rfl) ?_
      repeat (first
        | ((with_reducible refine at_qload_ (d := 18) ?_); refine quiet_load_mid rfl _ _ rfl lb lo rfl us _ (range_up HU.out.1) Try.underlying53 rfl HU.out.2.1 ?_)
        | ((with_reducible refine at_qload_ (d := 36) ?_); refine quiet_load_mid rfl _ _ rfl kb ko rfl n1 _ (range_up HK.out.1) Try.underlying53 rfl HK.out.2.1 ?_)
        | go_big_quiet_skip | (go_big_quiet_want; go_big_quiet_op; go_big_quiet_on) | quiet_step (first | with_reducible exact q1 _ _ | with_reducible exact q2 _ _))
      refine wpQuiet_nil ?_
      intro w3 hw3
      have H3 := Lib.hid (below_of_regrown hw3)
      clear hw3 q1 q2 c2 c4 c5
      go_wp2
      go_ret2
      exact DecIs.bad HD.out H3.out
  · have d1 : ((n : Int) != 1) = true := by simp; omega
    have HD := Lib.hid (lstT_not1 (f := f) (by rw [hn]; exact hn1))
    clear hs hn hok hn1
    go_enter Try.func18, Try.ntmps18
    go_wp2_with fail
    refine wp_region_quiet_below (by kernel_rfl) (by kernel_rfl) ?_
    repeat (first | go_big_quiet_skip | (go_big_quiet_want; go_big_quiet_op; go_big_quiet_on))
    refine wpQuiet_nil ?_
    intro w3 hw3
    have H3 := Lib.hid (below_of_regrown hw3)
    clear hw3
    go_wp2
    go_ret2
    exact DecIs.bad HD.out H3.out
end Go.Proofs.Ytobbnedojmcgoaa
