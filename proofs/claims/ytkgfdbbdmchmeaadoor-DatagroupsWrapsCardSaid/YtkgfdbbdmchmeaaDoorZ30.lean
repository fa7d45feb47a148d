/-
  What is proved here: what the reference's check returns.
-/
import Derived.Test.YtkgfdbbdmchmeaaDoorRows
import Derived.Test.YtkgfdbbdmchmeaaDoorZ0
import Derived.Test.YtkgfdbbdmchmeaaDoorZ4
import Derived.Test.YtkgfdbbdmchmeaaDoorZ15
namespace Go.Proofs.YtkgfdbbdmchmeaaDoor
open Go.RowKit
set_option maxRecDepth 8000
set_option linter.unusedVariables false
def RChkIs (f : F) (d : Int) (w : World) (e : Ending) (w' : World) : Prop := e = .returned (.int .i64 (chkE f d)) ∧ Below w.heap.size w w'
set_option maxHeartbeats 1000000 in
theorem ref_check (n : Nat) : ∀ (f : F) (A : Option Addr) (c : Nat) (d : Int) (w : World), f.size < n → n ≤ 1125899906842624 → f.ok → 0 ≤ d → d ≤ 9 → SeesF w (· < w.heap.size) A f →
    Calls Tryd.prog 44 #[.slice A f.len c, .int .i64 d] w (RChkIs f d w) := by
  induction n with
  | zero => intro f A c d w hn; omega
  | succ n ih =>
    intro f A c d w hn hb hok d0 d9 hs
    obtain ⟨cs, s1, s2⟩ := hs
    have hlen := f.len_le_size
    have HOK := Lib.hid hok
    have S2 := Lib.hid s2
    have S1 := Lib.hid s1
    have IH := Lib.hid ih
    clear hok s2 ih s1
    go_enter Tryd.func44, Tryd.ntmps44
    go_wp2_with fail
    go_loopw [5] (fun i wr => ∃ (k : Nat) (g : F), k + g.len = f.len ∧ i = .int .i64 k ∧ Hid (g.ok ∧ g.size ≤ f.size ∧ HoldsP w (· < w.heap.size) g (cs.drop (3 * k)) ∧ chkE f d = chkE g d ∧ Below w.heap.size w wr)) (fun i _ => f.len - (intOf i).toNat)
    case atStart => exact ⟨0, f, by omega, rfl, Lib.hid ⟨HOK.out, Nat.le_refl _, S2.out, rfl, Below.refl _ _⟩⟩
    case round =>
      clear S2 HOK
      obtain ⟨k, g, hk, rfl, HG⟩ := hrel
      cases g with
      | nil =>
        have HD := Lib.hid (show RChkIs f d w (.returned (.int .i64 0)) wr from ⟨by rw [HG.out.2.2.2.1]; rfl, HG.out.2.2.2.2⟩)
        have hk2 : k = f.len := hk
        clear hk HG
        go_wp2_with fail
        go_ret
        exact HD.out
      | cons t v kk r =>
        have hk1 : k + r.len + 1 = f.len := hk
        have hgs : kk.size + r.size + 1 ≤ f.size := HG.out.2.1
        have hlk := kk.len_le_size
        obtain ⟨lo, hi⟩ := HG.out.1.1
        obtain ⟨b, off, Av, cv, Ak, ck, rfl, hp, g0, g1, g2, sv, sk, hr, hnv⟩ := node_at S1.out HG.out.2.2.1
        have hB := HG.out.2.2.2.2
        have y0 := (hB.cell (p := ⟨b, off + k * 3, none⟩) hp).trans g0
        have y1 := (hB.cell (p := ⟨b, off + k * 3 + 1, none⟩) hp).trans g1
        have y2 := (hB.cell (p := ⟨b, off + k * 3 + 2, none⟩) hp).trans g2
        have HR := Lib.hid hr
        have HK := Lib.hid (show SeesF wr (· < wr.heap.size) Ak kk from (sk.keep fun _ hq => hB.cell hq).imp fun b hb2 => Nat.lt_of_lt_of_le hb2 hB.size)
        have hlt : k < f.len := by omega
        clear hk hr sk sv hnv g0 g1 g2 hB
        -- CASES
        obtain ⟨lv, hlv⟩ : ∃ lv, lv = v.length := ⟨_, rfl⟩
        obtain ⟨lk, hlk2⟩ : ∃ lk, lk = kk.len := ⟨_, rfl⟩
        rw [← hlv] at y1
        rw [← hlk2] at y2
        have HL := Lib.hid (show lv = v.length ∧ lk = kk.len from ⟨hlv, hlk2⟩)
        obtain ⟨x, hx⟩ : ∃ x, x = chk1 t lv lk d := ⟨_, rfl⟩
        have HXX := Lib.hid (show x = chk1 t v.length kk.len d from by rw [hx, hlv, hlk2])
        have HBW := Lib.hid HG.out.2.2.2.2
        have HNW := Lib.hid (show Below wr.heap.size wr (wr.alloc (.cells #[.int .i64 t, .slice Av lv cv, .slice Ak lk ck] 50)) from (Below.refl _ _).alloc (Nat.le_refl _) _)
        unfold chk1 at hx
        clear hlv hlk2 hlk S1 hp
        cases hv : validB t
        · have HW := Lib.hid (show ∀ u, Calls Tryd.prog 60 #[.int .i64 t] u fun e w' => e = .returned (.bool false) ∧ w' = u from fun u => by have := ref_valid t lo hi u; rwa [hv] at this)
          have HK2 := Lib.hid (show ∀ u, Calls Tryd.prog 61 #[.int .i64 t] u fun e w' => e = .returned (.bool (consB t)) ∧ w' = u from fun u => ref_cons t lo hi u)
          rw [hv, if_pos rfl] at hx
          clear hv
          have HD := Lib.hid (show RChkIs f d w (.returned (.int .i64 4)) _ from ⟨by rw [HG.out.2.2.2.1, chkE_1 (by rw [← HXX.out, hx]; decide), ← HXX.out, hx], below_on HBW.out HNW.out⟩)
          clear hx HXX HG HR HK IH HBW HNW HL
          go_wp2_with (first | (go_at_call 60; refine (HW.out _).mono ?_; rintro e w' ⟨rfl, rfl⟩) | (go_at_call 61; refine (HK2.out _).mono ?_; rintro e w' ⟨rfl, rfl⟩))
          go_ret
          exact HD.out
        · have HW := Lib.hid (show ∀ u, Calls Tryd.prog 60 #[.int .i64 t] u fun e w' => e = .returned (.bool true) ∧ w' = u from fun u => by have := ref_valid t lo hi u; rwa [hv] at this)
          rw [hv, if_neg (by decide)] at hx
          clear hv
          cases hc : consB t
          · have HK2 := Lib.hid (show ∀ u, Calls Tryd.prog 61 #[.int .i64 t] u fun e w' => e = .returned (.bool false) ∧ w' = u from fun u => by have := ref_cons t lo hi u; rwa [hc] at this)
            rw [hc] at hx
            clear hc
            by_cases h1 : 0 < lk
            · have d1 : decide (0 < lk) = true := by simpa using h1
              rw [if_pos (by simp; omega)] at hx
              clear h1
              have HD := Lib.hid (show RChkIs f d w (.returned (.int .i64 1)) _ from ⟨by rw [HG.out.2.2.2.1, chkE_1 (by rw [← HXX.out, hx]; decide), ← HXX.out, hx], below_on HBW.out HNW.out⟩)
              clear hx HXX HG HR HK IH HBW HNW HL
              go_wp2_with (first | (go_at_call 60; refine (HW.out _).mono ?_; rintro e w' ⟨rfl, rfl⟩) | (go_at_call 61; refine (HK2.out _).mono ?_; rintro e w' ⟨rfl, rfl⟩))
              go_ret
              exact HD.out
            · have d1 : decide (0 < lk) = false := by simpa using h1
              rw [if_neg (by simp; omega)] at hx
              clear h1
              by_cases h2 : 8 < d
              · have d2 : decide (8 < d) = true := by simpa using h2
                rw [if_pos h2] at hx
                clear h2
                have HD := Lib.hid (show RChkIs f d w (.returned (.int .i64 7)) _ from ⟨by rw [HG.out.2.2.2.1, chkE_1 (by rw [← HXX.out, hx]; decide), ← HXX.out, hx], below_on HBW.out HNW.out⟩)
                clear hx HXX HG HR HK IH HBW HNW HL
                go_wp2_with (first | (go_at_call 60; refine (HW.out _).mono ?_; rintro e w' ⟨rfl, rfl⟩) | (go_at_call 61; refine (HK2.out _).mono ?_; rintro e w' ⟨rfl, rfl⟩))
                go_ret
                exact HD.out
              · have d2 : decide (8 < d) = false := by simpa using h2
                rw [if_neg h2] at hx
                have hd8 : d ≤ 8 := by omega
                clear h2
                have hc2 := IH.out kk Ak ck (d + 1) _ (by omega) (by omega) HG.out.1.2.2.1 (by omega) (by omega) (HK.out.on HNW.out)
                unfold RChkIs at hc2
                rw [← HL.out.2] at hc2
                obtain ⟨y, hy⟩ : ∃ y, y = chkE kk (d + 1) := ⟨_, rfl⟩
                rw [← hy] at hc2
                have HC2 := Lib.hid hc2
                have HE := Lib.hid (show chk1 t v.length kk.len d = 0 ∧ y = chkE kk (d + 1) from ⟨by rw [← HXX.out, hx], hy⟩)
                clear hc2 hx HXX hy HK
                go_wp2_with (first | (go_at_call 60; refine (HW.out _).mono ?_; rintro e w' ⟨rfl, rfl⟩) | (go_at_call 61; refine (HK2.out _).mono ?_; rintro e w' ⟨rfl, rfl⟩))
                refine HC2.out.mono ?_
                rintro e w2 ⟨rfl, hb2⟩
                have HB2 := Lib.hid (below_on HBW.out (below_on HNW.out hb2))
                clear hb2 HC2 HNW HBW
                by_cases h0 : y = 0
                · subst h0
                  have HF := Lib.hid (show r.ok ∧ r.size ≤ f.size ∧ HoldsP w (· < w.heap.size) r (cs.drop (3 * (k + 1))) ∧ chkE f d = chkE r d ∧ Below w.heap.size w w2 from ⟨HG.out.1.2.2.2, by omega, HR.out, HG.out.2.2.2.1.trans (chkE_3 HE.out.1 HE.out.2.symm), HB2.out⟩)
                  clear HG HR HE HB2 IH HL
                  go_wp2_with fail
                  go_roundw
                  case rel => exact ⟨k + 1, r, by omega, by go_num, HF⟩
                  case measure => simp [intOf]; omega
                · have d3 : (y != 0) = true := by simpa using h0
                  have HD := Lib.hid (show RChkIs f d w (.returned (.int .i64 y)) w2 from ⟨by rw [HG.out.2.2.2.1, chkE_2 HE.out.1 (by rw [← HE.out.2]; exact h0), ← HE.out.2], HB2.out⟩)
                  clear HG HR HE HB2 IH HL h0
                  go_wp2_with fail
                  go_ret
                  exact HD.out
          · have HK2 := Lib.hid (show ∀ u, Calls Tryd.prog 61 #[.int .i64 t] u fun e w' => e = .returned (.bool true) ∧ w' = u from fun u => by have := ref_cons t lo hi u; rwa [hc] at this)
            rw [hc] at hx
            clear hc
            by_cases h1 : 0 < lv
            · have d1 : decide (0 < lv) = true := by simpa using h1
              rw [if_pos (by simp; omega)] at hx
              clear h1
              have HD := Lib.hid (show RChkIs f d w (.returned (.int .i64 1)) _ from ⟨by rw [HG.out.2.2.2.1, chkE_1 (by rw [← HXX.out, hx]; decide), ← HXX.out, hx], below_on HBW.out HNW.out⟩)
              clear hx HXX HG HR HK IH HBW HNW HL
              go_wp2_with (first | (go_at_call 60; refine (HW.out _).mono ?_; rintro e w' ⟨rfl, rfl⟩) | (go_at_call 61; refine (HK2.out _).mono ?_; rintro e w' ⟨rfl, rfl⟩))
              go_ret
              exact HD.out
            · have d1 : decide (0 < lv) = false := by simpa using h1
              rw [if_neg (by simp; omega)] at hx
              clear h1
              by_cases h2 : 8 < d
              · have d2 : decide (8 < d) = true := by simpa using h2
                rw [if_pos h2] at hx
                clear h2
                have HD := Lib.hid (show RChkIs f d w (.returned (.int .i64 7)) _ from ⟨by rw [HG.out.2.2.2.1, chkE_1 (by rw [← HXX.out, hx]; decide), ← HXX.out, hx], below_on HBW.out HNW.out⟩)
                clear hx HXX HG HR HK IH HBW HNW HL
                go_wp2_with (first | (go_at_call 60; refine (HW.out _).mono ?_; rintro e w' ⟨rfl, rfl⟩) | (go_at_call 61; refine (HK2.out _).mono ?_; rintro e w' ⟨rfl, rfl⟩))
                go_ret
                exact HD.out
              · have d2 : decide (8 < d) = false := by simpa using h2
                rw [if_neg h2] at hx
                have hd8 : d ≤ 8 := by omega
                clear h2
                have hc2 := IH.out kk Ak ck (d + 1) _ (by omega) (by omega) HG.out.1.2.2.1 (by omega) (by omega) (HK.out.on HNW.out)
                unfold RChkIs at hc2
                rw [← HL.out.2] at hc2
                obtain ⟨y, hy⟩ : ∃ y, y = chkE kk (d + 1) := ⟨_, rfl⟩
                rw [← hy] at hc2
                have HC2 := Lib.hid hc2
                have HE := Lib.hid (show chk1 t v.length kk.len d = 0 ∧ y = chkE kk (d + 1) from ⟨by rw [← HXX.out, hx], hy⟩)
                clear hc2 hx HXX hy HK
                go_wp2_with (first | (go_at_call 60; refine (HW.out _).mono ?_; rintro e w' ⟨rfl, rfl⟩) | (go_at_call 61; refine (HK2.out _).mono ?_; rintro e w' ⟨rfl, rfl⟩))
                refine HC2.out.mono ?_
                rintro e w2 ⟨rfl, hb2⟩
                have HB2 := Lib.hid (below_on HBW.out (below_on HNW.out hb2))
                clear hb2 HC2 HNW HBW
                by_cases h0 : y = 0
                · subst h0
                  have HF := Lib.hid (show r.ok ∧ r.size ≤ f.size ∧ HoldsP w (· < w.heap.size) r (cs.drop (3 * (k + 1))) ∧ chkE f d = chkE r d ∧ Below w.heap.size w w2 from ⟨HG.out.1.2.2.2, by omega, HR.out, HG.out.2.2.2.1.trans (chkE_3 HE.out.1 HE.out.2.symm), HB2.out⟩)
                  clear HG HR HE HB2 IH HL
                  go_wp2_with fail
                  go_roundw
                  case rel => exact ⟨k + 1, r, by omega, by go_num, HF⟩
                  case measure => simp [intOf]; omega
                · have d3 : (y != 0) = true := by simpa using h0
                  have HD := Lib.hid (show RChkIs f d w (.returned (.int .i64 y)) w2 from ⟨by rw [HG.out.2.2.2.1, chkE_2 HE.out.1 (by rw [← HE.out.2]; exact h0), ← HE.out.2], HB2.out⟩)
                  clear HG HR HE HB2 IH HL h0
                  go_wp2_with fail
                  go_ret
                  exact HD.out
end Go.Proofs.YtkgfdbbdmchmeaaDoor
