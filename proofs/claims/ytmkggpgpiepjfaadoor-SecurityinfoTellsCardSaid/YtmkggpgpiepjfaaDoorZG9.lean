/-
  What is proved here: plain words for lists of objects in memory whose long Values lie within their capacity, with no condition; nothing of the program is used.
-/
import Derived.Test.YtmkggpgpiepjfaaDoorZG1
import Derived.Test.YtmkggpgpiepjfaaDoorRows
import Derived.Test.YtmkggpgpiepjfaaDoorZG1b
import Derived.Test.YtmkggpgpiepjfaaDoorZG2
import Derived.Test.YtmkggpgpiepjfaaDoorZG5
import Derived.Deep.CutRange
import Derived.Laws.AppendOwnNone
import Derived.Test.YtmkggpgpiepjfaaDoorZG3
namespace Go.Proofs.YtmkggpgpiepjfaaDoor
open Go.RowKit
set_option maxRecDepth 8000
def HoldsQ (w : World) (p : Nat → Prop) : F → List Value → Prop
  | .nil, cs => cs = []
  | .cons t v k r, cs => ∃ Av cv Ak ck ks cs', cs = .int .i64 t :: .slice Av v.length cv :: .slice Ak k.len ck :: cs' ∧ ((Av = none → cv = 0) ∧ (4096 < v.length → v.length ≤ cv)) ∧ SeesP w p Av (Us v) ∧ SeesP w p Ak ks ∧ HoldsQ w p k ks ∧ HoldsQ w p r cs'
def SeesQ (w : World) (p : Nat → Prop) (A : Option Addr) (f : F) : Prop := ∃ cs, SeesP w p A cs ∧ HoldsQ w p f cs
section
variable {w w' : World} {p p' : Nat → Prop} {A : Option Addr} {cs : List Value}
theorem HoldsQ.holds : ∀ {f : F} {cs : List Value}, HoldsQ w p f cs → HoldsP w p f cs
  | .nil, _, h => h
  | .cons _ _ _ _, _, ⟨Av, cv, Ak, ck, ks, cs', e, h0, h1, h2, h3, h4⟩ => ⟨Av, cv, Ak, ck, ks, cs', e, h0.1, h1, h2, HoldsQ.holds h3, HoldsQ.holds h4⟩
theorem HoldsQ.keep (hk : ∀ q : Addr, p q.block → w'.cell? q = w.cell? q) : ∀ {f : F} {cs : List Value}, HoldsQ w p f cs → HoldsQ w' p f cs
  | .nil, _, h => h
  | .cons _ _ _ _, _, ⟨Av, cv, Ak, ck, ks, cs', e, h0, h1, h2, h3, h4⟩ => ⟨Av, cv, Ak, ck, ks, cs', e, h0, h1.keep hk, h2.keep hk, HoldsQ.keep hk h3, HoldsQ.keep hk h4⟩
theorem HoldsQ.imp (hp : ∀ b, p b → p' b) : ∀ {f : F} {cs : List Value}, HoldsQ w p f cs → HoldsQ w p' f cs
  | .nil, _, h => h
  | .cons _ _ _ _, _, ⟨Av, cv, Ak, ck, ks, cs', e, h0, h1, h2, h3, h4⟩ => ⟨Av, cv, Ak, ck, ks, cs', e, h0, h1.imp hp, h2.imp hp, HoldsQ.imp hp h3, HoldsQ.imp hp h4⟩
theorem SeesQ.sees {f : F} (h : SeesQ w p A f) : SeesF w p A f := by
  obtain ⟨cs, h1, h2⟩ := h
  exact ⟨cs, h1, h2.holds⟩
theorem SeesQ.keep {f : F} (h : SeesQ w p A f) (hk : ∀ q : Addr, p q.block → w'.cell? q = w.cell? q) : SeesQ w' p A f := by
  obtain ⟨cs, h1, h2⟩ := h
  exact ⟨cs, h1.keep hk, HoldsQ.keep hk h2⟩
theorem SeesQ.imp {f : F} (h : SeesQ w p A f) (hp : ∀ b, p b → p' b) : SeesQ w p' A f := by
  obtain ⟨cs, h1, h2⟩ := h
  exact ⟨cs, h1.imp hp, HoldsQ.imp hp h2⟩
theorem SeesQ.on {f : F} (h : SeesQ w (· < w.heap.size) A f) (hb : Below w.heap.size w w') : SeesQ w' (· < w'.heap.size) A f :=
  (h.keep fun _ hq => hb.cell hq).imp fun _ hb2 => Nat.lt_of_lt_of_le hb2 hb.size
theorem node_atQ {k : Nat} {t : Int} {v : List UInt8} {kk r : F} (h : SeesP w p A cs) (hh : HoldsQ w p (.cons t v kk r) (cs.drop (3 * k))) :
    ∃ b off Av cv Ak ck, A = some ⟨b, off, none⟩ ∧ p b ∧ w.cell? ⟨b, off + k * 3, none⟩ = some (.int .i64 t) ∧ w.cell? ⟨b, off + k * 3 + 1, none⟩ = some (.slice Av v.length cv) ∧
      w.cell? ⟨b, off + k * 3 + 2, none⟩ = some (.slice Ak kk.len ck) ∧ SeesP w p Av (Us v) ∧ SeesQ w p Ak kk ∧ HoldsQ w p r (cs.drop (3 * (k + 1))) ∧ (Av = none → cv = 0) ∧ (4096 < v.length → v.length ≤ cv) := by
  obtain ⟨Av, cv, Ak, ck, ks, cs', e, h0, h1, h2, h3, h4⟩ := hh
  have hl : 3 * k + 2 < cs.length := by
    have := congrArg List.length e
    simp only [List.length_drop, List.length_cons] at this
    omega
  have e0 : cs[3 * k]? = some (.int .i64 t) := by
    have := congrArg (·[0]?) e
    simpa using this
  have e1 : cs[3 * k + 1]? = some (.slice Av v.length cv) := by
    have := congrArg (·[1]?) e
    simpa using this
  have e2 : cs[3 * k + 2]? = some (.slice Ak kk.len ck) := by
    have := congrArg (·[2]?) e
    simpa using this
  have e3 : cs.drop (3 * (k + 1)) = cs' := by
    have := congrArg (·.drop 3) e
    simp only [List.drop_drop, List.drop_succ_cons, List.drop_zero] at this
    rw [← this]; congr 1
  rcases h with h | ⟨b, off, rfl, hb, hc⟩
  · subst h; simp at hl
  · rw [Nat.mul_comm] at e0 e1 e2
    refine ⟨b, off, Av, cv, Ak, ck, rfl, hb, (hc _ (by omega)).trans e0, ?_, ?_, h1, ⟨ks, h2, h3⟩, by rw [e3]; exact h4, h0.1, h0.2⟩
    · rw [Nat.add_assoc]; exact (hc _ (by omega)).trans e1
    · rw [Nat.add_assoc]; exact (hc _ (by omega)).trans e2
end
def F.sm : F → Prop
  | .nil => True
  | .cons _ v k r => v.length ≤ 4096 ∧ k.sm ∧ r.sm
def F.sq : F → Prop
  | .nil => True
  | .cons _ v k r => v.length ≤ 5000 ∧ k.sq ∧ r.sq
theorem F.sm_sq : ∀ {f : F}, f.sm → f.sq
  | .nil, _ => trivial
  | .cons _ _ _ _, ⟨h1, h2, h3⟩ => ⟨by omega, F.sm_sq h2, F.sm_sq h3⟩
theorem HoldsP.small {w : World} {p : Nat → Prop} : ∀ {f : F} {cs : List Value}, HoldsP w p f cs → f.sm → HoldsQ w p f cs
  | .nil, _, h, _ => h
  | .cons _ _ _ _, _, ⟨Av, cv, Ak, ck, ks, cs', e, h0, h1, h2, h3, h4⟩, ⟨s1, s2, s3⟩ => ⟨Av, cv, Ak, ck, ks, cs', e, ⟨h0, fun h => by omega⟩, h1, h2, HoldsP.small h3 s2, HoldsP.small h4 s3⟩
theorem SeesF.small {w : World} {p : Nat → Prop} {A : Option Addr} {f : F} (h : SeesF w p A f) (hs : f.sm) : SeesQ w p A f := by
  obtain ⟨cs, h1, h2⟩ := h
  exact ⟨cs, h1, h2.small hs⟩
set_option maxRecDepth 8000
set_option linter.unusedVariables false
def CntOk (s m : Nat) : Prop := m ≤ s ∧ (s ≤ 256 → m = s) ∧ (256 < s → 256 < m)
def RCntIs (f : F) (w : World) (e : Ending) (w' : World) : Prop := ∃ m : Nat, e = .returned (.int .i64 (m : Int)) ∧ CntOk f.size m ∧ w' = w
set_option maxHeartbeats 1000000 in
theorem ref_count (n : Nat) : ∀ (f : F) (A : Option Addr) (c : Nat) (w : World) (p : Nat → Prop), f.size < n → n ≤ 1125899906842624 → SeesF w p A f →
    Calls Tryd.prog 50 #[.slice A f.len c, .int .i64 256] w (RCntIs f w) := by
  induction n with
  | zero => intro f A c w p hn; omega
  | succ n ih =>
    intro f A c w p hn hb hs
    obtain ⟨cs, s1, s2⟩ := hs
    have hlen := f.len_le_size
    have S2 := Lib.hid s2
    have S1 := Lib.hid s1
    have IH := Lib.hid ih
    clear s2 ih s1
    go_enter Tryd.func50, Tryd.ntmps50
    go_wp2_with fail
    go_loopw [5, 6] (fun q i wr => ∃ (k m z : Nat) (g : F), k + g.len = f.len ∧ i = .int .i64 k ∧ q = .int .i64 m ∧ z + g.size = f.size ∧ Hid (CntOk z m) ∧ m ≤ f.size ∧ Hid (HoldsP w p g (cs.drop (3 * k))) ∧ wr = w) (fun _ i _ => f.len - (intOf i).toNat)
    case atStart => exact ⟨0, 0, 0, f, by omega, rfl, rfl, by omega, Lib.hid ⟨Nat.le_refl _, fun _ => rfl, fun h => by omega⟩, by omega, Lib.hid S2.out, rfl⟩
    case round =>
      clear S2
      obtain ⟨k, m, z, g, hk, rfl, rfl, hz, HC, hm, HG, rfl⟩ := hrel
      cases g with
      | nil =>
        have hz2 : z = f.size := hz
        have HD := Lib.hid (show RCntIs f wr (.returned (.int .i64 (m : Int))) wr from ⟨m, rfl, by rw [← hz2]; exact HC.out, rfl⟩)
        have hk2 : k = f.len := hk
        have dk : decide ((k : Int) < (f.len : Int)) = false := by simp; omega
        clear hk HG hz HC hz2
        go_wp2_with fail
        go_ret
        exact HD.out
      | cons t v kk r =>
        have hk1 : k + r.len + 1 = f.len := hk
        have hz1 : z + (kk.size + r.size + 1) = f.size := by simp only [F.size] at hz; omega
        obtain ⟨b, off, Av, cv, Ak, ck, rfl, hp, g0, g1, g2, sv, sk, hr, hnv⟩ := node_at S1.out HG.out
        have HR := Lib.hid hr
        have hlt : k < f.len := by omega
        have dk : decide ((k : Int) < (f.len : Int)) = true := by simp; omega
        have HI := Lib.hid (IH.out kk Ak ck wr p (by omega) (by omega) sk)
        clear hk hr sk sv hnv g0 g1 hz
        by_cases h256 : m ≤ 256
        · have d1 : decide ((m : Int) ≤ 256) = true := by simp; omega
          clear h256
          go_wp2_with fail
          refine HI.out.mono ?_
          rintro e w' ⟨q, rfl, hq, rfl⟩
          have HQ := Lib.hid hq
          have hqs := hq.1
          clear hq HI
          have HF := Lib.hid (show CntOk (z + 1 + kk.size) (m + (1 + q)) from by
            have hm256 := of_decide_eq_true d1
            obtain ⟨a1, a2, a3⟩ := HC.out
            obtain ⟨b1, b2, b3⟩ := HQ.out
            refine ⟨by omega, fun h => ?_, fun h => ?_⟩
            · have := a2 (by omega); have := b2 (by omega); omega
            · by_cases h1 : kk.size ≤ 256
              · have := b2 h1
                by_cases h2 : z ≤ 256
                · have := a2 h2; omega
                · have := a3 (by omega); omega
              · have := b3 (by omega); omega)
          have hcm := HC.out.1
          go_wp2_with fail
          go_roundw
          case rel => exact ⟨k + 1, m + (1 + q), z + 1 + kk.size, r, by omega, by go_num, by go_num, by omega, HF, by omega, HR, trivial⟩
          case measure => simp [intOf]; omega
        · have d1 : decide ((m : Int) ≤ 256) = false := by simp; omega
          have hzz : 256 < z := by have := HC.out.1; omega
          have HD := Lib.hid (show RCntIs f wr (.returned (.int .i64 (m : Int))) wr from ⟨m, rfl, ⟨hm, fun h => by omega, fun h => by omega⟩, rfl⟩)
          clear h256 HI HC HR IH
          go_wp2_with fail
          go_ret
          exact HD.out
theorem lenL_1 {n : Nat} (h : n ≤ 127) : lenL n = [UInt8.ofNat n] := by unfold lenL; rw [if_pos h]
theorem lenL_2 {n : Nat} (h : 127 < n) (h2 : n ≤ 255) : lenL n = [129, UInt8.ofNat n] := by
  unfold lenL; rw [if_neg (by omega), lb_1 h (by omega)]
  simp [lenD]
theorem lenL_3 {n : Nat} (h : 255 < n) (h2 : n ≤ 65535) : lenL n = [130, UInt8.ofNat (n / 256), UInt8.ofNat n] := by
  unfold lenL; rw [if_neg (by omega), lb_2 (by omega) (by omega)]
  simp [lenD, List.range_succ]
def MadeIs (w : World) (l : List UInt8) (e : Ending) (w' : World) : Prop := ∃ g, e = .returned (.slice (some ⟨g, 0, none⟩) l.length l.length) ∧ SeesP w' (newB w w') (some ⟨g, 0, none⟩) (Us l) ∧ Below w.heap.size w w'
theorem made_is {w : World} {cells : Array Value} {l : List UInt8} {n : Nat} (h : cells.toList = Us l) (hn : n = l.length) : MadeIs w l (.returned (.slice (some ⟨w.heap.size, 0, none⟩) n n)) (w.alloc (.cells cells 5)) := by
  subst hn
  refine ⟨_, rfl, .inr ⟨_, 0, rfl, ⟨Nat.le_refl _, by simp⟩, fun i hi => ?_⟩, (Below.refl _ _).alloc (Nat.le_refl _) _⟩
  rw [Nat.zero_add, cell_of_row _ w.heap.size i cells _ (0, 0) (heap_alloc_new w _), ← h, Array.getElem?_toList]
theorem ref_length (n : Nat) (h : n ≤ 65535) (w : World) : Calls Tryd.prog 78 #[.int .i64 (n : Int)] w (MadeIs w (lenL n)) := by
  by_cases h1 : n ≤ 127
  · have d1 : decide ((n : Int) ≤ 127) = true := by simp; omega
    have HF := Lib.hid (made_is (w := w) (cells := #[.int .u8 (n : Int)]) (l := lenL n) (n := 1) (by rw [lenL_1 h1]; simp [Us, U]; omega) (by rw [lenL_1 h1]; rfl))
    go_enter Tryd.func78, Tryd.ntmps78
    go_wp2_with fail
    go_ret
    exact HF.out
  · have d1 : decide ((n : Int) ≤ 127) = false := by simp; omega
    by_cases h2 : n ≤ 255
    · have d2 : decide ((n : Int) ≤ 255) = true := by simp; omega
      have HF := Lib.hid (made_is (w := w) (cells := #[.int .u8 129, .int .u8 (n : Int)]) (l := lenL n) (n := 2) (by rw [lenL_2 (by omega) h2]; simp [Us, U]; omega) (by rw [lenL_2 (by omega) h2]; rfl))
      go_enter Tryd.func78, Tryd.ntmps78
      go_wp2_with fail
      go_ret
      exact HF.out
    · have d2 : decide ((n : Int) ≤ 255) = false := by simp; omega
      have HF := Lib.hid (made_is (w := w) (cells := #[.int .u8 130, .int .u8 ((n : Int) / 256), .int .u8 ((n : Int) % 256)]) (l := lenL n) (n := 3) (by rw [lenL_3 (by omega) h]; simp [Us, U]; omega) (by rw [lenL_3 (by omega) h]; rfl))
      go_enter Tryd.func78, Tryd.ntmps78
      go_wp2_with fail
      go_ret
      exact HF.out
set_option maxRecDepth 8000
theorem valid_in {t : Int} (h1 : 1 ≤ t) (h2 : t ≤ 255) : validB t = (t % 32 != 31) := by
  unfold validB
  rw [if_pos (by omega), decide_eq_true (show 0 < t by omega), Bool.true_and]
  by_cases h3 : t % 32 = 31 <;> simp [h3]
theorem valid_hi {t : Int} (h1 : 256 ≤ t) (h2 : t ≤ 65535) : validB t = (decide (t / 256 % 32 = 31) && decide (1 ≤ t % 256) && decide (t % 256 ≤ 127)) := by
  unfold validB
  rw [if_neg (by omega), decide_eq_true (show t / 256 ≤ 255 by omega), Bool.true_and]
theorem valid_out {t : Int} (h : ¬ (1 ≤ t ∧ t ≤ 255)) (h2 : ¬ (256 ≤ t ∧ t ≤ 65535)) : validB t = false := by
  cases hv : validB t with
  | false => rfl
  | true =>
    have := valid_range hv
    omega
theorem ref_valid (t : Int) (lo : -9223372036854775808 ≤ t) (hi : t ≤ 9223372036854775807) (w : World) :
    Calls Tryd.prog 76 #[.int .i64 t] w fun e w' => e = .returned (.bool (validB t)) ∧ w' = w := by
  by_cases h1 : 1 ≤ t
  · have d1 : decide (1 ≤ t) = true := by simpa using h1
    by_cases h2 : t ≤ 255
    · have d2 : decide (t ≤ 255) = true := by simpa using h2
      rw [valid_in h1 h2]
      clear h2
      go_enter Tryd.func76, Tryd.ntmps76
      go_wp2
      go_ret
      exact ⟨rfl, rfl⟩
    · have d2 : decide (t ≤ 255) = false := by simpa using h2
      have d3 : decide (256 ≤ t) = true := by simp; omega
      by_cases h3 : t ≤ 65535
      · have d4 : decide (t ≤ 65535) = true := by simpa using h3
        have hv := valid_hi (t := t) (by omega) h3
        by_cases h4 : t / 256 % 32 = 31
        · have d5 : (t / 256 % 32 == 31) = true := by simpa using h4
          by_cases h5 : 1 ≤ t % 256
          · have d6 : decide (1 ≤ t % 256) = true := by simpa using h5
            rw [hv, decide_eq_true h4, d6, Bool.true_and, Bool.true_and]
            clear hv h4 h5 h2 h3
            go_enter Tryd.func76, Tryd.ntmps76
            go_wp2
            go_ret
            exact ⟨rfl, rfl⟩
          · have d6 : decide (1 ≤ t % 256) = false := by simpa using h5
            rw [hv, decide_eq_true h4, d6, Bool.and_false, Bool.false_and]
            clear hv h4 h5 h2 h3
            go_enter Tryd.func76, Tryd.ntmps76
            go_wp2
            go_ret
            exact ⟨rfl, rfl⟩
        · have d5 : (t / 256 % 32 == 31) = false := by simpa using h4
          rw [hv, decide_eq_false h4, Bool.false_and, Bool.false_and]
          clear hv h4 h2 h3
          go_enter Tryd.func76, Tryd.ntmps76
          go_wp2
          go_ret
          exact ⟨rfl, rfl⟩
      · have d4 : decide (t ≤ 65535) = false := by simpa using h3
        rw [valid_out (by omega) (by omega)]
        clear h2 h3
        go_enter Tryd.func76, Tryd.ntmps76
        go_wp2
        go_ret
        exact ⟨rfl, rfl⟩
  · have d1 : decide (1 ≤ t) = false := by simpa using h1
    have d3 : decide (256 ≤ t) = false := by simp; omega
    rw [valid_out (by omega) (by omega)]
    clear h1
    go_enter Tryd.func76, Tryd.ntmps76
    go_wp2
    go_ret
    exact ⟨rfl, rfl⟩
theorem ref_cons (t : Int) (lo : -9223372036854775808 ≤ t) (hi : t ≤ 9223372036854775807) (w : World) :
    Calls Tryd.prog 77 #[.int .i64 t] w fun e w' => e = .returned (.bool (consB t)) ∧ w' = w := by
  cases hv : validB t
  · have hc : consB t = false := by unfold consB; rw [hv, Bool.false_and]
    have hw : ∀ u, Calls Tryd.prog 76 #[.int .i64 t] u fun e w' => e = .returned (.bool false) ∧ w' = u := fun u => by have := ref_valid t lo hi u; rwa [hv] at this
    have HW := Lib.hid hw
    rw [hc]
    clear hc hw
    go_enter Tryd.func77, Tryd.ntmps77
    go_wp2_with (go_at_call 76; refine (HW.out _).mono ?_; rintro e w' ⟨rfl, rfl⟩)
    go_ret
    exact ⟨rfl, rfl⟩
  · have hr := valid_range hv
    have hw : ∀ u, Calls Tryd.prog 76 #[.int .i64 t] u fun e w' => e = .returned (.bool true) ∧ w' = u := fun u => by have := ref_valid t lo hi u; rwa [hv] at this
    have HW := Lib.hid hw
    clear hw
    by_cases h : 255 < t
    · have d : decide (255 < t) = true := by simpa using h
      have hc : consB t = (t / 256 / 32 % 2 == 1) := by
        unfold consB firstB; rw [hv, Bool.true_and, if_neg (by omega)]
        by_cases h3 : t / 256 / 32 % 2 = 1 <;> simp [h3]
      rw [hc]
      clear hc h
      go_enter Tryd.func77, Tryd.ntmps77
      go_wp2_with (go_at_call 76; refine (HW.out _).mono ?_; rintro e w' ⟨rfl, rfl⟩)
      go_ret
      exact ⟨rfl, rfl⟩
    · have d : decide (255 < t) = false := by simpa using h
      have hc : consB t = (t / 32 % 2 == 1) := by
        unfold consB firstB; rw [hv, Bool.true_and, if_pos (by omega)]
        by_cases h3 : t / 32 % 2 = 1 <;> simp [h3]
      rw [hc]
      clear hc h
      go_enter Tryd.func77, Tryd.ntmps77
      go_wp2_with (go_at_call 76; refine (HW.out _).mono ?_; rintro e w' ⟨rfl, rfl⟩)
      go_ret
      exact ⟨rfl, rfl⟩
set_option maxRecDepth 8000
set_option linter.unusedVariables false
def RChkIs (f : F) (d : Int) (w : World) (e : Ending) (w' : World) : Prop := e = .returned (.int .i64 (chkE f d)) ∧ Below w.heap.size w w'
set_option maxHeartbeats 1000000 in
theorem ref_check (n : Nat) : ∀ (f : F) (A : Option Addr) (c : Nat) (d : Int) (w : World), f.size < n → n ≤ 1125899906842624 → f.ok → 0 ≤ d → d ≤ 9 → SeesF w (· < w.heap.size) A f →
    Calls Tryd.prog 49 #[.slice A f.len c, .int .i64 d] w (RChkIs f d w) := by
  induction n with
  | zero => intro f A c d w hn; omega
  | succ n ih =>
    intro f A c d w hn hb hok d0 d9 hs
    obtain ⟨cs, s1, s2⟩ := hs
    have hlen := f.len_le_size
    have HOK := Lib.hid hok
    have S2 := Lib.hid s2
    have S1 := Lib.hid s1
    have IH := Lib.hid ih
    clear hok s2 ih s1
    go_enter Tryd.func49, Tryd.ntmps49
    go_wp2_with fail
    go_loopw [5] (fun i wr => ∃ (k : Nat) (g : F), k + g.len = f.len ∧ i = .int .i64 k ∧ Hid (g.ok ∧ g.size ≤ f.size ∧ HoldsP w (· < w.heap.size) g (cs.drop (3 * k)) ∧ chkE f d = chkE g d ∧ Below w.heap.size w wr)) (fun i _ => f.len - (intOf i).toNat)
    case atStart => exact ⟨0, f, by omega, rfl, Lib.hid ⟨HOK.out, Nat.le_refl _, S2.out, rfl, Below.refl _ _⟩⟩
    case round =>
      clear S2 HOK
      obtain ⟨k, g, hk, rfl, HG⟩ := hrel
      cases g with
      | nil =>
        have HD := Lib.hid (show RChkIs f d w (.returned (.int .i64 0)) wr from ⟨by rw [HG.out.2.2.2.1]; rfl, HG.out.2.2.2.2⟩)
        have hk2 : k = f.len := hk
        clear hk HG
        go_wp2_with fail
        go_ret
        exact HD.out
      | cons t v kk r =>
        have hk1 : k + r.len + 1 = f.len := hk
        have hgs : kk.size + r.size + 1 ≤ f.size := HG.out.2.1
        have hlk := kk.len_le_size
        obtain ⟨lo, hi⟩ := HG.out.1.1
        obtain ⟨b, off, Av, cv, Ak, ck, rfl, hp, g0, g1, g2, sv, sk, hr, hnv⟩ := node_at S1.out HG.out.2.2.1
        have hB := HG.out.2.2.2.2
        have y0 := (hB.cell (p := ⟨b, off + k * 3, none⟩) hp).trans g0
        have y1 := (hB.cell (p := ⟨b, off + k * 3 + 1, none⟩) hp).trans g1
        have y2 := (hB.cell (p := ⟨b, off + k * 3 + 2, none⟩) hp).trans g2
        have HR := Lib.hid hr
        have HK := Lib.hid (show SeesF wr (· < wr.heap.size) Ak kk from (sk.keep fun _ hq => hB.cell hq).imp fun b hb2 => Nat.lt_of_lt_of_le hb2 hB.size)
        have hlt : k < f.len := by omega
        clear hk hr sk sv hnv g0 g1 g2 hB
        -- CASES
        obtain ⟨lv, hlv⟩ : ∃ lv, lv = v.length := ⟨_, rfl⟩
        obtain ⟨lk, hlk2⟩ : ∃ lk, lk = kk.len := ⟨_, rfl⟩
        rw [← hlv] at y1
        rw [← hlk2] at y2
        have HL := Lib.hid (show lv = v.length ∧ lk = kk.len from ⟨hlv, hlk2⟩)
        obtain ⟨x, hx⟩ : ∃ x, x = chk1 t lv lk d := ⟨_, rfl⟩
        have HXX := Lib.hid (show x = chk1 t v.length kk.len d from by rw [hx, hlv, hlk2])
        have HBW := Lib.hid HG.out.2.2.2.2
        have HNW := Lib.hid (show Below wr.heap.size wr (wr.alloc (.cells #[.int .i64 t, .slice Av lv cv, .slice Ak lk ck] 54)) from (Below.refl _ _).alloc (Nat.le_refl _) _)
        unfold chk1 at hx
        clear hlv hlk2 hlk S1 hp
        cases hv : validB t
        · have HW := Lib.hid (show ∀ u, Calls Tryd.prog 76 #[.int .i64 t] u fun e w' => e = .returned (.bool false) ∧ w' = u from fun u => by have := ref_valid t lo hi u; rwa [hv] at this)
          have HK2 := Lib.hid (show ∀ u, Calls Tryd.prog 77 #[.int .i64 t] u fun e w' => e = .returned (.bool (consB t)) ∧ w' = u from fun u => ref_cons t lo hi u)
          rw [hv, if_pos rfl] at hx
          clear hv
          have HD := Lib.hid (show RChkIs f d w (.returned (.int .i64 4)) _ from ⟨by rw [HG.out.2.2.2.1, chkE_1 (by rw [← HXX.out, hx]; decide), ← HXX.out, hx], below_on HBW.out HNW.out⟩)
          clear hx HXX HG HR HK IH HBW HNW HL
          go_wp2_with (first | (go_at_call 76; refine (HW.out _).mono ?_; rintro e w' ⟨rfl, rfl⟩) | (go_at_call 77; refine (HK2.out _).mono ?_; rintro e w' ⟨rfl, rfl⟩))
          go_ret
          exact HD.out
        · have HW := Lib.hid (show ∀ u, Calls Tryd.prog 76 #[.int .i64 t] u fun e w' => e = .returned (.bool true) ∧ w' = u from fun u => by have := ref_valid t lo hi u; rwa [hv] at this)
          rw [hv, if_neg (by decide)] at hx
          clear hv
          cases hc : consB t
          · have HK2 := Lib.hid (show ∀ u, Calls Tryd.prog 77 #[.int .i64 t] u fun e w' => e = .returned (.bool false) ∧ w' = u from fun u => by have := ref_cons t lo hi u; rwa [hc] at this)
            rw [hc] at hx
            clear hc
            by_cases h1 : 0 < lk
            · have d1 : decide (0 < lk) = true := by simpa using h1
              rw [if_pos (by simp; omega)] at hx
              clear h1
              have HD := Lib.hid (show RChkIs f d w (.returned (.int .i64 1)) _ from ⟨by rw [HG.out.2.2.2.1, chkE_1 (by rw [← HXX.out, hx]; decide), ← HXX.out, hx], below_on HBW.out HNW.out⟩)
              clear hx HXX HG HR HK IH HBW HNW HL
              go_wp2_with (first | (go_at_call 76; refine (HW.out _).mono ?_; rintro e w' ⟨rfl, rfl⟩) | (go_at_call 77; refine (HK2.out _).mono ?_; rintro e w' ⟨rfl, rfl⟩))
              go_ret
              exact HD.out
            · have d1 : decide (0 < lk) = false := by simpa using h1
              rw [if_neg (by simp; omega)] at hx
              clear h1
              by_cases h2 : 8 < d
              · have d2 : decide (8 < d) = true := by simpa using h2
                rw [if_pos h2] at hx
                clear h2
                have HD := Lib.hid (show RChkIs f d w (.returned (.int .i64 7)) _ from ⟨by rw [HG.out.2.2.2.1, chkE_1 (by rw [← HXX.out, hx]; decide), ← HXX.out, hx], below_on HBW.out HNW.out⟩)
                clear hx HXX HG HR HK IH HBW HNW HL
                go_wp2_with (first | (go_at_call 76; refine (HW.out _).mono ?_; rintro e w' ⟨rfl, rfl⟩) | (go_at_call 77; refine (HK2.out _).mono ?_; rintro e w' ⟨rfl, rfl⟩))
                go_ret
                exact HD.out
              · have d2 : decide (8 < d) = false := by simpa using h2
                rw [if_neg h2] at hx
                have hd8 : d ≤ 8 := by omega
                clear h2
                have hc2 := IH.out kk Ak ck (d + 1) _ (by omega) (by omega) HG.out.1.2.2.1 (by omega) (by omega) (HK.out.on HNW.out)
                unfold RChkIs at hc2
                rw [← HL.out.2] at hc2
                obtain ⟨y, hy⟩ : ∃ y, y = chkE kk (d + 1) := ⟨_, rfl⟩
                rw [← hy] at hc2
                have HC2 := Lib.hid hc2
                have HE := Lib.hid (show chk1 t v.length kk.len d = 0 ∧ y = chkE kk (d + 1) from ⟨by rw [← HXX.out, hx], hy⟩)
                clear hc2 hx HXX hy HK
                go_wp2_with (first | (go_at_call 76; refine (HW.out _).mono ?_; rintro e w' ⟨rfl, rfl⟩) | (go_at_call 77; refine (HK2.out _).mono ?_; rintro e w' ⟨rfl, rfl⟩))
                refine HC2.out.mono ?_
                rintro e w2 ⟨rfl, hb2⟩
                have HB2 := Lib.hid (below_on HBW.out (below_on HNW.out hb2))
                clear hb2 HC2 HNW HBW
                by_cases h0 : y = 0
                · subst h0
                  have HF := Lib.hid (show r.ok ∧ r.size ≤ f.size ∧ HoldsP w (· < w.heap.size) r (cs.drop (3 * (k + 1))) ∧ chkE f d = chkE r d ∧ Below w.heap.size w w2 from ⟨HG.out.1.2.2.2, by omega, HR.out, HG.out.2.2.2.1.trans (chkE_3 HE.out.1 HE.out.2.symm), HB2.out⟩)
                  clear HG HR HE HB2 IH HL
                  go_wp2_with fail
                  go_roundw
                  case rel => exact ⟨k + 1, r, by omega, by go_num, HF⟩
                  case measure => simp [intOf]; omega
                · have d3 : (y != 0) = true := by simpa using h0
                  have HD := Lib.hid (show RChkIs f d w (.returned (.int .i64 y)) w2 from ⟨by rw [HG.out.2.2.2.1, chkE_2 HE.out.1 (by rw [← HE.out.2]; exact h0), ← HE.out.2], HB2.out⟩)
                  clear HG HR HE HB2 IH HL h0
                  go_wp2_with fail
                  go_ret
                  exact HD.out
          · have HK2 := Lib.hid (show ∀ u, Calls Tryd.prog 77 #[.int .i64 t] u fun e w' => e = .returned (.bool true) ∧ w' = u from fun u => by have := ref_cons t lo hi u; rwa [hc] at this)
            rw [hc] at hx
            clear hc
            by_cases h1 : 0 < lv
            · have d1 : decide (0 < lv) = true := by simpa using h1
              rw [if_pos (by simp; omega)] at hx
              clear h1
              have HD := Lib.hid (show RChkIs f d w (.returned (.int .i64 1)) _ from ⟨by rw [HG.out.2.2.2.1, chkE_1 (by rw [← HXX.out, hx]; decide), ← HXX.out, hx], below_on HBW.out HNW.out⟩)
              clear hx HXX HG HR HK IH HBW HNW HL
              go_wp2_with (first | (go_at_call 76; refine (HW.out _).mono ?_; rintro e w' ⟨rfl, rfl⟩) | (go_at_call 77; refine (HK2.out _).mono ?_; rintro e w' ⟨rfl, rfl⟩))
              go_ret
              exact HD.out
            · have d1 : decide (0 < lv) = false := by simpa using h1
              rw [if_neg (by simp; omega)] at hx
              clear h1
              by_cases h2 : 8 < d
              · have d2 : decide (8 < d) = true := by simpa using h2
                rw [if_pos h2] at hx
                clear h2
                have HD := Lib.hid (show RChkIs f d w (.returned (.int .i64 7)) _ from ⟨by rw [HG.out.2.2.2.1, chkE_1 (by rw [← HXX.out, hx]; decide), ← HXX.out, hx], below_on HBW.out HNW.out⟩)
                clear hx HXX HG HR HK IH HBW HNW HL
                go_wp2_with (first | (go_at_call 76; refine (HW.out _).mono ?_; rintro e w' ⟨rfl, rfl⟩) | (go_at_call 77; refine (HK2.out _).mono ?_; rintro e w' ⟨rfl, rfl⟩))
                go_ret
                exact HD.out
              · have d2 : decide (8 < d) = false := by simpa using h2
                rw [if_neg h2] at hx
                have hd8 : d ≤ 8 := by omega
                clear h2
                have hc2 := IH.out kk Ak ck (d + 1) _ (by omega) (by omega) HG.out.1.2.2.1 (by omega) (by omega) (HK.out.on HNW.out)
                unfold RChkIs at hc2
                rw [← HL.out.2] at hc2
                obtain ⟨y, hy⟩ : ∃ y, y = chkE kk (d + 1) := ⟨_, rfl⟩
                rw [← hy] at hc2
                have HC2 := Lib.hid hc2
                have HE := Lib.hid (show chk1 t v.length kk.len d = 0 ∧ y = chkE kk (d + 1) from ⟨by rw [← HXX.out, hx], hy⟩)
                clear hc2 hx HXX hy HK
                go_wp2_with (first | (go_at_call 76; refine (HW.out _).mono ?_; rintro e w' ⟨rfl, rfl⟩) | (go_at_call 77; refine (HK2.out _).mono ?_; rintro e w' ⟨rfl, rfl⟩))
                refine HC2.out.mono ?_
                rintro e w2 ⟨rfl, hb2⟩
                have HB2 := Lib.hid (below_on HBW.out (below_on HNW.out hb2))
                clear hb2 HC2 HNW HBW
                by_cases h0 : y = 0
                · subst h0
                  have HF := Lib.hid (show r.ok ∧ r.size ≤ f.size ∧ HoldsP w (· < w.heap.size) r (cs.drop (3 * (k + 1))) ∧ chkE f d = chkE r d ∧ Below w.heap.size w w2 from ⟨HG.out.1.2.2.2, by omega, HR.out, HG.out.2.2.2.1.trans (chkE_3 HE.out.1 HE.out.2.symm), HB2.out⟩)
                  clear HG HR HE HB2 IH HL
                  go_wp2_with fail
                  go_roundw
                  case rel => exact ⟨k + 1, r, by omega, by go_num, HF⟩
                  case measure => simp [intOf]; omega
                · have d3 : (y != 0) = true := by simpa using h0
                  have HD := Lib.hid (show RChkIs f d w (.returned (.int .i64 y)) w2 from ⟨by rw [HG.out.2.2.2.1, chkE_2 HE.out.1 (by rw [← HE.out.2]; exact h0), ← HE.out.2], HB2.out⟩)
                  clear HG HR HE HB2 IH HL h0
                  go_wp2_with fail
                  go_ret
                  exact HD.out
end Go.Proofs.YtmkggpgpiepjfaaDoor
namespace Go.Proofs.YtmkggpgpiepjfaaDoor
open Go.RowKit
set_option linter.unusedVariables false
def St2 (w : World) (D : Nat) (l : List UInt8) (v : Value) (wX : World) : Prop := wX.ownsRow w.heap.size 5 1 v l.length (Us l) ∧ w.grownBy wX (some D) ∧ DiceOk wX D
theorem own_row {w : World} {base : Nat} {e : TypeId} {s : Nat} {v : Value} {n : Nat} {xs : List Value} (h : w.ownsRow base e s v n xs) : ∀ g, v.ownBlock = some g → base ≤ g := fun g e => (h.lt g e).1
theorem St2.app {w wX w2 : World} {D : Nat} {l xs : List UInt8} {v v2 : Value} {o : Obj} {n : Nat} {news : List Value} (h : St2 w D l v wX) (hDw : D < w.heap.size) (hn : n = xs.length) (he : news = Us xs) (ho : w2.ownsRow w.heap.size 5 1 v2 (l.length + n) (Us l ++ news)) (hg : (wX.alloc o).grownBy w2 v.ownBlock) : St2 w D (l ++ xs) v2 w2 := by
  subst hn he
  refine ⟨by rw [List.length_append, Us_append]; exact ho, grown_row (grown_trans h.2.1 (grown_alloc wX o (some D))) hg (own_row h.1), ?_⟩
  exact (h.2.2.below ((Below.refl _ _).alloc (Nat.le_refl _) o)).grown hg fun g e => by have := own_row h.1 g e; omega
theorem St2.src {w wX w2 : World} {D : Nat} {l xs : List UInt8} {v v2 : Value} (h : St2 w D l v wX) (hDw : D < w.heap.size) (ho : w2.ownsRow w.heap.size 5 1 v2 (l.length + xs.length) (Us l ++ Us xs)) (hg : wX.grownBy w2 v.ownBlock) : St2 w D (l ++ xs) v2 w2 :=
  ⟨by rw [List.length_append, Us_append]; exact ho, grown_row h.2.1 hg (own_row h.1), h.2.2.grown hg fun g e => by have := own_row h.1 g e; omega⟩
theorem St2.far {w wX w2 : World} {D : Nat} {l : List UInt8} {v : Value} (h : St2 w D l v wX) (hDw : D < w.heap.size) (hg : wX.grownBy w2 (some D)) (hd : DiceOk w2 D) : St2 w D l v w2 := by
  refine ⟨own_far h.1 hg ?_, grown_trans h.2.1 hg, hd⟩
  intro e
  have := own_row h.1 D e
  omega
def Con (wX : World) (v : Value) (A : Option Addr) (c : Nat) (cb : List UInt8) : Prop := SeesP wX (fun b => b < wX.heap.size ∧ v.ownBlock ≠ some b) A (Us cb) ∧ (A = none → c = 0)
theorem Con.grown {wX w2 : World} {D : Nat} {v : Value} {A : Option Addr} {cb : List UInt8} (h : SeesP wX (fun b => b < wX.heap.size ∧ v.ownBlock ≠ some b ∧ b ≠ D) A (Us cb)) (hg : wX.grownBy w2 (some D)) : SeesP w2 (fun b => b < w2.heap.size ∧ v.ownBlock ≠ some b ∧ b ≠ D) A (Us cb) :=
  (h.keep fun q hq => grown_cell hg hq.1 hq.2.2).imp fun b hb => ⟨Nat.lt_of_lt_of_le hb.1 hg.size, hb.2⟩
theorem t1 (t : Nat) : #[Value.int .u8 ((t : Int) % 256)].toList = Us [UInt8.ofNat t] := by simp [Us, U]
theorem h00 {n : Nat} (h : n < 256) : #[Value.int .u8 (n : Int)].toList = Us [UInt8.ofNat n] := by simp [Us, U]; omega
theorem u8s_cells {l : List Value} {xs : List UInt8} (h : l = Us xs) : ∀ u ∈ l, u.oneCell' = true := by rw [h]; exact Us_one xs
def LRel (w : World) (D : Nat) (p : Nat → Prop) (cs : List Value) (f : F) (v : Value) (j : Nat) (g : F) (l : List UInt8) (wr : World) : Prop :=
  St2 w D l v wr ∧ HoldsP w p g (cs.drop (3 * j)) ∧ ∃ df : F, df.app g = f ∧ (l.length ≤ 4096 → LooseOf false df l) ∧ l.length ≤ df.size * 400 ∧ df.size + g.size = f.size
theorem LRel.step {w w2 : World} {D : Nat} {p : Nat → Prop} {cs : List Value} {f : F} {v2 : Value} {j : Nat} {t : Int} {v ck : List UInt8} {kk r : F} {l hd tl L : List UInt8}
    (hh : HoldsP w p r (cs.drop (3 * (j + 1)))) (hx : ∃ df : F, df.app (.cons t v kk r) = f ∧ (l.length ≤ 4096 → LooseOf false df l) ∧ l.length ≤ df.size * 400 ∧ df.size + (F.cons t v kk r).size = f.size)
    (hL : L = l ++ tagL t.toNat ++ hd ++ (v ++ ck) ++ tl) (hst : St2 w D L v2 w2) (hck : ck.length ≤ 4096 → LooseOf false kk ck) (hcl : ck.length ≤ kk.size * 400) (hvl : v.length ≤ 300) (hhl : hd.length + tl.length ≤ 5)
    (hok : v.length + ck.length ≤ 4096 → HdOk false t (v.length + ck.length) hd tl) : LRel w D p cs f v2 (j + 1) r L w2 := by
  obtain ⟨df, d1, d2, d3, d4⟩ := hx
  have hlen : L.length = l.length + (tagL t.toNat).length + hd.length + (v.length + ck.length) + tl.length := by rw [hL]; simp only [List.length_append]
  have hT : (tagL t.toNat).length ≤ 2 := by unfold tagL; split <;> simp
  refine ⟨hst, hh, df.app (.cons t v kk .nil), by rw [F.app_assoc]; exact d1, fun h => ?_, ?_, ?_⟩
  · have h1 : LooseOf false (.cons t v kk .nil) (tagL t.toNat ++ (hd ++ (v ++ ck ++ (tl ++ [])))) := ⟨ck, [], hd, tl, hck (by omega), rfl, hok (by omega), rfl⟩
    have h2 := LooseOf.app h1 (d2 (by omega))
    rw [hL]
    simp only [List.append_assoc, List.append_nil] at h2 ⊢
    exact h2
  · rw [F.size_app]; simp only [F.size]; omega
  · rw [F.size_app]; simp only [F.size] at d4 ⊢; omega
theorem append_con {P : Program} {w : World} {ops : Array Oper} {rest : List Oper} {o : Oper} {a : Act} {Q : Exit → Act → World → Prop} (hgd : o.guard = none) (s x : Operand) (t : TypeId)
    (ho : o.op = .call { callee := .builtin .append, args := #[s, x], argTypes := #[t, t] })
    (base : Nat) (e : TypeId) (i : TypeInfo) (z : Value) (ht : P.underlying t = some (.slice e)) (hi : P.info? e = some i) (hz : i.zero = some z)
    (hsize : i.size = 1) (hby : i.bytes = 1) (hzs : z.cells.size = 1)
    (v : Value) (n : Nat) (xs : List Value) (hs : a.eval s = v) (hown : w.ownsRow base e 1 v n xs)
    (A : Option Addr) (c : Nat) (cb : List UInt8) (hx : a.eval x = .slice A cb.length c) (hn : A = none → c = 0) (hcc : A = none → cb = []) (hc : ∀ ad, A = some ad → ∀ j u, (Us cb)[j]? = some u → w.cell? (ad.add j) = some u)
    (h63 : n + cb.length ≤ maxLen) (hbytes : n + cb.length ≤ 140737488355328) (hbase : base ≤ w.heap.size)
    (h : ∀ v' w', w'.ownsRow base e 1 v' (n + cb.length) (xs ++ Us cb) → w.grownBy w' v.ownBlock → wpList P ops Q rest (a.put o.dst v') w') : wpList P ops Q (o :: rest) a w := by
  cases A with
  | none =>
    have h1 := hcc rfl
    have h2 := hn rfl
    subst h1 h2
    exact wpList_append_own_none hgd s x t ho base e i 1 ht hi v n xs hs hown hx (h v w (by simpa [Us] using hown) (World.grownBy.refl _ _))
  | some ad =>
    exact wpList_append_own w hgd s x t ho base e i z 1 1 ht hi hz hsize hby hzs (by decide) v n xs hs hown ad cb.length c (Us cb) hx (by rw [Us_length]; omega) (hc ad rfl) (Us_one _) h63 (by omega) hbase fun v' w' h1 h2 _ => h v' w' h1 h2
def F.raw : F → Prop
  | .nil => True
  | .cons t v k r => (0 < t ∧ t ≤ 65535) ∧ v.length ≤ 5000 ∧ (consB t = true → v = []) ∧ (consB t = false → k = .nil) ∧ k.raw ∧ r.raw
theorem enc_app (g : F) : ∀ f : F, enc (f.app g) = enc f ++ enc g
  | .nil => rfl
  | .cons t v k r => by simp only [F.app, enc, enc_app g r, List.append_assoc]
theorem encN_app (g : F) : ∀ f : F, encN (f.app g) = encN f + encN g
  | .nil => by simp [F.app, encN]
  | .cons t v k r => by simp only [F.app, encN, encN_app g r]; omega
theorem lb_max {n : Nat} (h : n ≤ 65535) : lb n ≤ 2 := by
  by_cases h1 : n ≤ 127
  · rw [lb_0 h1]; omega
  · by_cases h2 : n < 256
    · rw [lb_1 (by omega) h2]; omega
    · rw [lb_2 (by omega) (by omega)]; omega
def St3 (w : World) (l : List UInt8) (v : Value) (wX : World) : Prop := wX.ownsRow w.heap.size 5 1 v l.length (Us l) ∧ Below w.heap.size w wX
def Con3 (wX : World) (v : Value) (A : Option Addr) (cb : List UInt8) : Prop := SeesP wX (fun q => q < wX.heap.size ∧ v.ownBlock ≠ some q) A (Us cb)
theorem St3.app {w wX w2 : World} {l xs : List UInt8} {v v2 : Value} {o : Obj} {n : Nat} {news : List Value} (h : St3 w l v wX) (hn : n = xs.length) (he : news = Us xs) (ho : w2.ownsRow w.heap.size 5 1 v2 (l.length + n) (Us l ++ news)) (hg : (wX.alloc o).grownBy w2 v.ownBlock) : St3 w (l ++ xs) v2 w2 := by
  subst hn he
  exact ⟨by rw [List.length_append, Us_append]; exact ho, ((h.2.alloc h.2.size o)).grown hg (by have := h.2.size; simp; omega) (own_row h.1)⟩
theorem St3.src {w wX w2 : World} {l xs : List UInt8} {v v2 : Value} (h : St3 w l v wX) (ho : w2.ownsRow w.heap.size 5 1 v2 (l.length + xs.length) (Us l ++ Us xs)) (hg : wX.grownBy w2 v.ownBlock) : St3 w (l ++ xs) v2 w2 :=
  ⟨by rw [List.length_append, Us_append]; exact ho, h.2.grown hg h.2.size (own_row h.1)⟩
theorem St3.on {w wX w2 : World} {l : List UInt8} {v : Value} (h : St3 w l v wX) (hb : Below wX.heap.size wX w2) : St3 w l v w2 :=
  ⟨own_far h.1 (grown_below hb (row := some wX.heap.size)) (fun e => by have := (h.1.lt _ e).2; omega), below_on h.2 hb⟩
theorem Con3.lies {wX w2 : World} {v : Value} {A : Option Addr} {cb : List UInt8} {o : Obj} {g k cap : Nat} (h : Con3 wX v A cb) (hg : (wX.alloc o).grownBy w2 v.ownBlock) (hl : v.ownBlock = some g ∨ g = (wX.alloc o).heap.size) : Con3 w2 (.slice (some ⟨g, 0, none⟩) k cap) A cb := by
  refine (SeesP.keep h fun q hq => ?_).imp fun b hb => ⟨?_, ?_⟩
  · exact (World.cell?_of_block (hg.block q.block (by simp; omega) (fun e => hq.2 e.symm))).trans (World.cell?_alloc_lt wX o q hq.1)
  · have h1 := hg.size
    have h2 := hb.1
    simp at h1
    omega
  · intro e
    have e : some g = some b := e
    injection e with e
    subst e
    rcases hl with hl | hl
    · exact hb.2 hl
    · have := hb.1; simp at hl; omega
theorem Con3.lies0 {wX w2 : World} {v : Value} {A : Option Addr} {cb : List UInt8} {g k cap : Nat} (h : Con3 wX v A cb) (hg : wX.grownBy w2 v.ownBlock) (hl : v.ownBlock = some g ∨ g = wX.heap.size) : Con3 w2 (.slice (some ⟨g, 0, none⟩) k cap) A cb := by
  refine (SeesP.keep h fun q hq => ?_).imp fun b hb => ⟨?_, ?_⟩
  · exact World.cell?_of_block (hg.block q.block hq.1 (fun e => hq.2 e.symm))
  · have := hg.size; have := hb.1; omega
  · intro e
    have e : some g = some b := e
    injection e with e
    subst e
    rcases hl with hl | hl
    · exact hb.2 hl
    · have := hb.1; omega
theorem Con3.on {wX w2 : World} {v : Value} {A : Option Addr} {cb : List UInt8} (h : Con3 wX v A cb) (hb : Below wX.heap.size wX w2) : Con3 w2 v A cb :=
  (SeesP.keep h fun q hq => hb.cell hq.1).imp fun b hq => ⟨Nat.lt_of_lt_of_le hq.1 hb.size, hq.2⟩
def ContOk (v : List UInt8) (kk : F) (cb : List UInt8) : Prop := (v.length + encN kk ≤ 4096 → cb = v ++ enc kk) ∧ (4096 < v.length + encN kk → 4096 < cb.length)
def RawIs (w : World) (f : F) (e : Ending) (w' : World) : Prop := ∃ (b : List UInt8) (A : Option Addr) (c : Nat), e = .returned (.slice A b.length c) ∧ b.length ≤ c ∧ (A = none → c = 0) ∧ SeesP w' (newB w w') A (Us b) ∧ (encN f ≤ 4096 → b = enc f) ∧ (4096 < encN f → 4096 < b.length) ∧ b.length ≤ 8300 ∧ Below w.heap.size w w'
def RRel (w : World) (cs : List Value) (f : F) (v : Value) (j : Nat) (g : F) (l : List UInt8) (wr : World) : Prop :=
  St3 w l v wr ∧ HoldsQ w (· < w.heap.size) g (cs.drop (3 * j)) ∧ g.raw ∧ ∃ df : F, df.app g = f ∧ (encN df ≤ 4096 → l = enc df) ∧ (4096 < encN df → 4096 < l.length)
theorem RRel.step {w w2 : World} {cs : List Value} {f : F} {v2 : Value} {j T : Nat} {v cb c2 : List UInt8} {kk r : F} {l L : List UInt8}
    (hh : HoldsQ w (· < w.heap.size) r (cs.drop (3 * (j + 1)))) (hr : r.raw) (hx : ∃ df : F, df.app (.cons (T : Int) v kk r) = f ∧ (encN df ≤ 4096 → l = enc df) ∧ (4096 < encN df → 4096 < l.length))
    (hl : l.length ≤ 4096) (hc : ContOk v kk cb) (h2 : c2 = if 4096 < cb.length then cb.take 4097 else cb) (hL : L = l ++ tagL T ++ lenL c2.length ++ c2) (hst : St3 w L v2 w2) : RRel w cs f v2 (j + 1) r L w2 ∧ L.length ≤ 8300 := by
  obtain ⟨df, d1, d2, d3⟩ := hx
  have hc2 : c2.length ≤ 4097 := by
    rw [h2]; split
    · rw [List.length_take]; omega
    · omega
  have hlb := lb_max (n := c2.length) (by omega)
  have hlen : L.length = l.length + (tagL T).length + (1 + lb c2.length) + c2.length := by rw [hL]; simp only [List.length_append, lenL_length]
  have hT : (tagL T).length ≤ 2 := by unfold tagL; split <;> simp
  have hTn := tagL_length T
  have hN : encN (.cons (T : Int) v kk .nil) = tagN (T : Int) + 1 + lb (v.length + encN kk) + (v.length + encN kk) := by simp only [encN]; omega
  have hok : v.length + encN kk ≤ 4096 → c2 = v ++ enc kk ∧ c2.length = v.length + encN kk := fun h => by
    have e := hc.1 h
    have e2 : cb.length = v.length + encN kk := by rw [e, List.length_append, enc_length]
    rw [if_neg (by omega)] at h2
    rw [h2]
    exact ⟨e, e2⟩
  refine ⟨⟨hst, hh, hr, df.app (.cons (T : Int) v kk .nil), by rw [F.app_assoc]; exact d1, fun h => ?_, fun h => ?_⟩, by omega⟩
  · rw [encN_app, hN] at h
    obtain ⟨e1, e2⟩ := hok (by omega)
    rw [enc_app, hL, d2 (by omega), e2, e1]
    simp only [enc, Int.toNat_natCast, List.append_nil, List.append_assoc]
  · rw [encN_app, hN] at h
    by_cases h4 : v.length + encN kk ≤ 4096
    · obtain ⟨e1, e2⟩ := hok h4
      have hd : encN df ≤ 4096 := by
        by_cases hd : encN df ≤ 4096
        · exact hd
        · have := d3 (by omega); omega
      have := d2 hd
      have hle : l.length = encN df := by rw [this, enc_length]
      rw [e2] at hlen
      omega
    · have := hc.2 (by omega)
      rw [if_pos this] at h2
      have : c2.length = 4097 := by rw [h2, List.length_take]; omega
      omega
def RawAll (n : Nat) : Prop := ∀ (f : F) (A : Option Addr) (c : Nat) (w : World), f.size < n → f.raw → SeesQ w (· < w.heap.size) A f →
  Calls Tryd.prog 51 #[.slice A f.len c] w (RawIs w f)
set_option maxRecDepth 20000 in
set_option maxHeartbeats 8000000 in
theorem ref_raw (n : Nat) (hn : n ≤ 1125899906842624) : RawAll n := by
  induction n with
  | zero => intro f A c w h; omega
  | succ n ih =>
    intro f A c w hsz hraw hs
    obtain ⟨i0, hi, hz0, hz1, hz2⟩ := info_parts info_u8b
    obtain ⟨cs, s1, k1⟩ := hs
    have hlen := f.len_le_size
    have IH := Lib.hid (ih (by omega))
    have HS := Lib.hid (show SeesP w (· < w.heap.size) A cs from s1)
    have H0 := Lib.hid (show RRel w cs f (.slice none 0 0) 0 f [] w from ⟨⟨⟨rfl, .inl ⟨rfl, rfl⟩⟩, Below.refl _ _⟩, k1, hraw, .nil, rfl, fun _ => rfl, fun h => by simp [encN] at h⟩)
    clear ih s1 k1 hraw
    go_enter Tryd.func51, Tryd.ntmps51
    go_wp2_with fail
    go_loopw [3, 4] (fun v i wr => ∃ (j : Nat) (g : F) (l : List UInt8), j + g.len = f.len ∧ i = .int .i64 (j : Int) ∧ g.size ≤ f.size ∧ l.length ≤ 8300 ∧ Hid (RRel w cs f v j g l wr)) (fun _ i _ => f.len - (intOf i).toNat)
    case atStart => exact ⟨0, f, [], by omega, rfl, Nat.le_refl _, by simp, H0⟩
    case round =>
      clear H0
      obtain ⟨j, g, l, hj, rfl, hgs, hl8, HG⟩ := hrel
      have hlv : ∃ lv cv A3, u3 = .slice A3 lv cv ∧ lv = l.length := by
        rcases HG.out.1.1.2 with ⟨e, h0⟩ | ⟨g3, cap, cur, e, hb, hh, hn, hmx, hs, ht⟩
        · exact ⟨0, 0, none, by rw [e], h0.symm⟩
        · exact ⟨_, _, _, by rw [e], rfl⟩
      obtain ⟨lv, cv3, A3, rfl, rfl⟩ := hlv
      have hres : (g = .nil ∨ 4096 < l.length) → RawIs w f (.returned (.slice A3 l.length cv3)) wr := fun hor => by
        obtain ⟨st, hh, _, df, d1, d2, d3⟩ := HG.out
        have hencf : encN f = encN df + encN g := by rw [← d1, encN_app]
        have hnew : SeesP wr (newB w wr) A3 (Us l) ∧ l.length ≤ cv3 ∧ (A3 = none → cv3 = 0) := by
          rcases st.1.2 with ⟨e, h0⟩ | ⟨g3, cap, cur, e, hb, hh2, hn, hmx, hs, ht⟩
          · have : l = [] := List.eq_nil_of_length_eq_zero h0
            subst this
            injection e with e1 e2 e3
            subst e1 e3
            exact ⟨.inl rfl, by simp, fun _ => rfl⟩
          · injection e with e1 e2 e3
            subst e1 e3
            refine ⟨Or.inr ⟨g3, 0, rfl, ⟨hb, lt_of_block hh2⟩, fun i hi => ?_⟩, hn, (fun e2 => by cases e2)⟩
            rw [Us_length] at hi
            rw [Nat.zero_add, cell_of_row wr g3 i cur _ (0, 0) hh2, ← ht, List.getElem?_take, if_pos (by omega), Array.getElem?_toList]
        refine ⟨l, A3, cv3, rfl, hnew.2.1, hnew.2.2, hnew.1, fun h => ?_, fun h => ?_, hl8, st.2⟩
        · rcases hor with rfl | h4
          · rw [F.app_nil] at d1
            rw [← d1]
            exact d2 (by rw [← d1] at h; exact h)
          · have := d2 (by omega)
            rw [this, enc_length] at h4
            omega
        · rcases hor with rfl | h4
          · rw [F.app_nil] at d1
            exact d3 (by rw [← d1] at h; exact h)
          · exact h4
      cases g with
      | nil =>
        have HF := Lib.hid (hres (.inl rfl))
        have hj2 : j = f.len := hj
        have dk : decide ((j : Int) < (f.len : Int)) = false := by simp; omega
        clear hres HG hj
        go_wp2_with fail
        go_ret
        exact HF.out
      | cons t v kk r =>
        have hj1 : j + r.len + 1 = f.len := hj
        have hlt : j < f.len := by omega
        have dk : decide ((j : Int) < (f.len : Int)) = true := by simp; omega
        by_cases h4 : l.length ≤ 4096
        · have d4 : decide ((l.length : Int) ≤ 4096) = true := by simp; omega
          have hgs1 : kk.size + r.size + 1 ≤ f.size := hgs
          obtain ⟨st, hh, ⟨⟨t0, t1⟩, v4, hcv, hck, hkr, hrr⟩, hx⟩ := HG.out
          obtain ⟨T, rfl⟩ := Int.eq_ofNat_of_zero_le (show 0 ≤ t by omega)
          have hT : T ≤ 65535 := by omega
          obtain ⟨b, off, Av, cv, Ak, ck, rfl, hp, x0, x1, x2, sv, sk, hr, hnv⟩ := node_atQ HS.out hh
          have y0 := (st.2.cell (p := ⟨b, off + j * 3, none⟩) hp).trans x0
          have y1 := (st.2.cell (p := ⟨b, off + j * 3 + 1, none⟩) hp).trans x1
          have y2 := (st.2.cell (p := ⟨b, off + j * 3 + 2, none⟩) hp).trans x2
          have HX := Lib.hid (show HoldsQ w (· < w.heap.size) r (cs.drop (3 * (j + 1))) ∧ r.raw ∧ (∃ df : F, df.app (.cons (T : Int) v kk r) = f ∧ (encN df ≤ 4096 → l = enc df) ∧ (4096 < encN df → 4096 < l.length)) from ⟨hr, hrr, hx⟩)
          have HQ := Lib.hid (show SeesP w (· < w.heap.size) Av (Us v) ∧ SeesQ w (· < w.heap.size) Ak kk ∧ ((Av = none → cv = 0) ∧ (4096 < v.length → v.length ≤ cv)) ∧ (consB (T : Int) = true → v = []) ∧ (consB (T : Int) = false → kk = .nil) ∧ kk.raw from ⟨sv, sk, hnv, hcv, hck, hkr⟩)
          have HY := Lib.hid (show b < w.heap.size ∧ w.cell? ⟨b, off + j * 3, none⟩ = some (.int .i64 (T : Int)) from ⟨hp, x0⟩)
          have ST := Lib.hid st
          have HK := Lib.hid (fun u => ref_cons (T : Int) (by omega) (by omega) u)
          have hwsz := st.2.size
          clear hj hgs HG hh hx hr sv sk hnv x0 x1 x2 hp st hcv hck hkr hrr hres HS t0 t1
          go_upto_if 27 with (go_at_call 77; refine (HK.out _).mono ?_; rintro e w' ⟨rfl, rfl⟩)
          go_cut [5] from 6 to 71 (fun v5 wx => ∃ (A : Option Addr) (cn : Nat) (cb : List UInt8), v5 = .slice A cb.length cn ∧ Hid (St3 w l (.slice A3 l.length cv3) wx ∧ Con3 wx (.slice A3 l.length cv3) A cb ∧ (A = none → cn = 0) ∧ (4096 < cb.length → cb.length ≤ cn) ∧ ContOk v kk cb) ∧ cb.length ≤ 8300)
          case first =>
            cases hcb : consB (T : Int)
            · go_wp2_with fail
              go_meet
              have hkn := HQ.out.2.2.2.2.1 hcb
              refine ⟨Av, cv, v, rfl, Lib.hid ⟨ST.out, ?_, HQ.out.2.2.1.1, HQ.out.2.2.1.2, fun _ => ?_, fun h => ?_⟩, by omega⟩
              · refine (HQ.out.1.keep fun q hq => ST.out.2.cell hq).imp fun q hq => ⟨by have : q < w.heap.size := hq; omega, ?_⟩
                intro e
                have := own_row ST.out.1 q e
                have : q < w.heap.size := hq
                omega
              · rw [hkn]; simp [enc]
              · rw [hkn] at h; simp [encN] at h; omega
            · have HI := Lib.hid (IH.out kk Ak ck _ (by omega) HQ.out.2.2.2.2.2 (HQ.out.2.1.on ST.out.2))
              go_wp2_with fail
              refine HI.out.mono ?_
              rintro e w2 ⟨bb, A2, c2, rfl, hcl, hcn, hss, he1, he2, hbl, hbw⟩
              have HZ := Lib.hid (show _ ∧ _ ∧ _ ∧ _ ∧ _ ∧ _ from ⟨hcl, hcn, hss, he1, he2, hbw⟩)
              clear hcl hcn hss he1 he2 hbw HI
              go_wp2_with fail
              go_meet
              obtain ⟨hcl, hcn, hss, he1, he2, hbw⟩ := HZ.out
              have hvn := HQ.out.2.2.2.1 hcb
              refine ⟨A2, c2, bb, rfl, Lib.hid ⟨ST.out.on hbw, hss.imp fun q hq => ⟨hq.2, ?_⟩, hcn, fun _ => hcl, fun h => ?_, fun h => ?_⟩, hbl⟩
              · intro e
                have := (ST.out.1.lt q e).2
                have := hq.1
                omega
              · rw [hvn] at h ⊢; exact he1 (by simpa using h)
              · rw [hvn] at h; exact he2 (by simpa using h)
          case rest =>
            obtain ⟨A, cn, cb, rfl, HC, hcb8⟩ := hcut
            have y0 := (HC.out.1.2.cell (p := ⟨b, off + j * 3, none⟩) HY.out.1).trans HY.out.2
            have hown := HC.out.1.1
            have hsz1 := HC.out.1.2.size
            clear ST y1 y2 hwsz
            go_upto_if 39 with fail
            go_cut [3] from 6 to 71 (fun v3 wx => ∃ l1 : List UInt8, Hid (St3 w l1 v3 wx ∧ Con3 wx v3 A cb ∧ l1 ++ [UInt8.ofNat T] = l ++ tagL T) ∧ l1.length ≤ l.length + 1)
            case first =>
              by_cases h255 : 255 < T
              · have d255 : decide ((255 : Int) < (T : Int)) = true := by simp; omega
                have eq1 : #[Value.int .u8 ((T : Int) / 256)].toList = Us [UInt8.ofNat (T / 256)] := by simp [Us, U]; omega
                go_wp2_with (at_builtin; refine wpList_append_lies _ rfl (.tmp 40) (.tmp 48) 23 rfl w.heap.size 5 i0 (.int .u8 0) 1 1 Tryd.underlying23 hi hz0 hz1 hz2 rfl (by decide) (.slice A3 l.length cv3) (l.length) _ rfl (hown.alloc _) ⟨_, 0, none⟩ 1 1 _ rfl rfl (World.news_of_block (heap_alloc_new _ _)) (u8s_cells eq1) (by decide) (by unfold maxLen; omega) (by omega) (by simp; omega) _ rfl ?_; intro ga capa wa ho hg hl _; have ST1 := Lib.hid (St3.app (xs := [UInt8.ofNat (T / 256)]) HC.out.1 rfl eq1 ho hg); have CO1 := Lib.hid (Con3.lies HC.out.2.1 hg hl (k := l.length + 1) (cap := capa)); clear ho hg hl)
                go_meet
                exact ⟨_, Lib.hid ⟨ST1.out, CO1.out, by unfold tagL; rw [if_pos h255]; simp⟩, by simp⟩
              · have d255 : decide ((255 : Int) < (T : Int)) = false := by simp; omega
                go_wp2_with fail
                go_meet
                exact ⟨_, Lib.hid ⟨HC.out.1, HC.out.2.1, by unfold tagL; rw [if_neg h255]⟩, by omega⟩
            case rest =>
              obtain ⟨l1, HC1, hl1⟩ := hcut
              have y0 := (HC1.out.1.2.cell (p := ⟨b, off + j * 3, none⟩) HY.out.1).trans HY.out.2
              have hown1 := HC1.out.1.1
              have hsz2 := HC1.out.1.2.size
              clear hown hsz1
              go_upto_if 61 with (at_builtin; refine wpList_append_lies _ rfl (.tmp 50) (.tmp 57) 23 rfl w.heap.size 5 i0 (.int .u8 0) 1 1 Tryd.underlying23 hi hz0 hz1 hz2 rfl (by decide) u3 (l1.length) _ rfl (hown1.alloc _) ⟨_, 0, none⟩ 1 1 _ rfl rfl (World.news_of_block (heap_alloc_new _ _)) (u8s_cells (t1 T)) (by decide) (by unfold maxLen; omega) (by omega) (by simp; omega) _ rfl ?_; intro gb capb wb ho hg hl _; have ST2 := Lib.hid (St3.app (xs := [UInt8.ofNat T]) HC1.out.1 rfl (t1 T) ho hg); have CO2 := Lib.hid (Con3.lies HC1.out.2.1 hg hl (k := l1.length + 1) (cap := capb)); clear ho hg hl)
              have hln2 : (l1 ++ [UInt8.ofNat T]).length = l1.length + 1 := by simp
              have hbnd := ST2.out.1
              have hsz3 := ST2.out.2.size
              have HST := Lib.hid hbnd
              clear hbnd hown1 hsz2 y0
              go_cut [3, 5] from 6 to 71 (fun v3 v5 wx => ∃ (L1 : List UInt8) (g1 p1 : Nat) (A : Option Addr) (cn : Nat) (c2 : List UInt8), v3 = .slice (some ⟨g1, 0, none⟩) L1.length p1 ∧ v5 = .slice A c2.length cn ∧ c2.length ≤ 4097 ∧ L1.length ≤ 4100 ∧ Hid (c2 = (if 4096 < cb.length then cb.take 4097 else cb) ∧ St3 w L1 (.slice (some ⟨g1, 0, none⟩) L1.length p1) wx ∧ Con3 wx (.slice (some ⟨g1, 0, none⟩) L1.length p1) A c2 ∧ (A = none → cn = 0) ∧ L1 = l ++ tagL T))
              case first =>
                by_cases h9 : 4096 < cb.length
                · have d9 : decide ((4096 : Int) < (cb.length : Int)) = true := by simp; omega
                  have hcap := HC.out.2.2.2.1 h9
                  go_wp2_with fail
                  go_meet
                  refine ⟨l1 ++ [UInt8.ofNat T], gb, capb, A, cn, cb.take 4097, by rw [List.length_append]; rfl, by rw [List.length_take, Nat.min_eq_left (by omega)], by rw [List.length_take]; omega, by omega, Lib.hid ⟨by rw [if_pos h9], by have h := ST2.out; rw [show (l1 ++ [UInt8.ofNat T]).length = l1.length + 1 by simp]; exact h, ?_, HC.out.2.2.1, HC1.out.2.2⟩⟩
                  have h := CO2.out
                  unfold Con3 at h ⊢
                  rw [show (l1 ++ [UInt8.ofNat T]).length = l1.length + 1 by simp]
                  exact sees_take h
                · have d9 : decide ((4096 : Int) < (cb.length : Int)) = false := by simp; omega
                  go_wp2_with fail
                  go_meet
                  exact ⟨l1 ++ [UInt8.ofNat T], gb, capb, A, cn, cb, by rw [List.length_append]; rfl, rfl, by omega, by omega, Lib.hid ⟨by rw [if_neg h9], by rw [show (l1 ++ [UInt8.ofNat T]).length = l1.length + 1 by simp]; exact ST2.out, by rw [show (l1 ++ [UInt8.ofNat T]).length = l1.length + 1 by simp]; exact CO2.out, HC.out.2.2.1, HC1.out.2.2⟩⟩
              case rest =>
                obtain ⟨L1, g1, p1, A, cn, c2, rfl, rfl, hc2l, hL1, HC2⟩ := hcut
                clear ST2 CO2 HST hsz3
                obtain ⟨LS, hLS⟩ : ∃ LS, LS = lenL c2.length := ⟨_, rfl⟩
                have hLl : 1 ≤ LS.length ∧ LS.length ≤ 3 := by have := lenL_length c2.length; have := lb_max (n := c2.length) (by omega); rw [hLS]; omega
                obtain ⟨hLa, hLb⟩ := hLl
                have HLN := Lib.hid (show ∀ u, Calls Tryd.prog 78 #[.int .i64 (c2.length : Int)] u (MadeIs u LS) from fun u => by rw [hLS]; exact ref_length c2.length (by omega) u)
                have HLS := Lib.hid hLS
                have HT2 := Lib.hid HC2.out.1
                clear hLS
                go_wp2_with fail
                refine (HLN.out _).mono ?_
                rintro e wl ⟨gl, rfl, sl, hbl⟩
                have ST3 := Lib.hid (HC2.out.2.1.on hbl)
                have CO3 := Lib.hid (Con3.on HC2.out.2.2.1 hbl)
                have HSL := Lib.hid (show ∀ j u, (Us LS)[j]? = some u → wl.cell? ((⟨gl, 0, none⟩ : Addr).add j) = some u from sl.src _ rfl)
                have hsz4 := ST3.out.2.size
                clear sl hbl HLN
                go_wp2_with (first | (at_builtin; refine wpList_append_lies _ rfl (.tmp 64) (.tmp 67) 23 rfl w.heap.size 5 i0 (.int .u8 0) 1 1 Tryd.underlying23 hi hz0 hz1 hz2 rfl (by decide) (.slice (some ⟨g1, 0, none⟩) L1.length p1) _ _ rfl ST3.out.1 ⟨gl, 0, none⟩ LS.length LS.length (Us LS) rfl (by rw [Us_length]; omega) HSL.out (Us_one _) (by omega) (by unfold maxLen; omega) (by omega) hsz4 _ rfl ?_; intro gc capc wc4 ho hg hl _; have ST4 := Lib.hid (St3.src (xs := LS) ST3.out ho hg); have CO4 := Lib.hid (Con3.lies0 CO3.out hg hl (k := L1.length + LS.length) (cap := capc)); have hsz5 := ST4.out.2.size; have hln5 : (L1 ++ LS).length ≤ L1.length + LS.length := (by rw [List.length_append]; omega); have HNN := Lib.hid (show A = none → c2 = [] from fun e => (by have h := CO4.out; unfold Con3 at h; rw [e] at h; have := congrArg List.length h.none_nil; rw [Us_length] at this; exact List.eq_nil_of_length_eq_zero this)); clear ho hg hl) | (at_builtin; refine append_con rfl (.tmp 69) (.tmp 70) 23 rfl w.heap.size 5 i0 (.int .u8 0) Tryd.underlying23 hi hz0 hz1 hz2 rfl _ _ _ rfl ST4.out.1 A cn c2 rfl HC2.out.2.2.2.1 HNN.out (SeesP.src CO4.out) (by unfold maxLen; omega) (by omega) hsz5 ?_; intro v5 w5 ho5 hg5; have ST5 := Lib.hid (St3.src ST4.out ho5 hg5); clear ho5 hg5))
                have HF := Lib.hid (RRel.step HX.out.1 HX.out.2.1 HX.out.2.2 h4 HC.out.2.2.2.2 HC2.out.1 (by rw [HC2.out.2.2.2.2, HLS.out]) ST5.out)
                have hL8 := HF.out.2
                have HF1 := Lib.hid HF.out.1
                clear HF ST4 ST5 CO4 ST3 CO3
                go_roundw
                case rel => exact ⟨j + 1, r, _, by omega, by go_num, by omega, hL8, HF1⟩
                case measure => simp [intOf]; omega
        · have d4 : decide ((l.length : Int) ≤ 4096) = false := by simp; omega
          have HF := Lib.hid (hres (.inr (by omega)))
          clear hres HG hj h4
          go_wp2_with fail
          go_ret
          exact HF.out
end Go.Proofs.YtmkggpgpiepjfaaDoor
namespace Go.Proofs.YtmkggpgpiepjfaaDoor
open Go.RowKit
set_option maxRecDepth 8000
set_option linter.unusedVariables false
theorem F.raw_of : ∀ {f : F} {d : Int}, chkE f d = 0 → f.sq → f.raw
  | .nil, _, _, _ => trivial
  | .cons t v k r, d, h, ⟨s1, s2, s3⟩ => by
    by_cases h1 : chk1 t v.length k.len d = 0
    · by_cases h2 : chkE k (d + 1) = 0
      · rw [chkE_3 h1 h2] at h
        refine ⟨?_, s1, ?_, ?_, F.raw_of h2 s2, F.raw_of h s3⟩
        all_goals
          unfold chk1 at h1
          split at h1
          · omega
          · rename_i hv
            split at h1
            · omega
            · rename_i hf
              first
                | exact valid_range (by cases hq : validB t; exact absurd hq (by simpa using hv); rfl)
                | (intro hc
                   have hz : ¬ 0 < v.length := fun h0 => hf (.inl ⟨hc, h0⟩)
                   exact List.eq_nil_of_length_eq_zero (by omega))
                | (intro hc
                   have hz : ¬ 0 < k.len := fun h0 => hf (.inr ⟨hc, h0⟩)
                   exact F.len_zero (by omega))
      · rw [chkE_2 h1 h2] at h; exact absurd h h2
    · rw [chkE_1 h1] at h; exact absurd h h1
def GivesZ (w : World) (bs : List UInt8) (er : Int) (e : Ending) (w' : World) : Prop :=
  ∃ A c, e = .returned (.tuple #[.slice A bs.length c, .int .i64 er]) ∧ SeesP w' (fun b => w.heap.size ≤ b ∧ b < w'.heap.size) A (Us bs) ∧ Below w.heap.size w w' ∧ bs.length ≤ c ∧ (A = none → c = 0)
theorem renc_fail {f : F} {x : Int} {w w' : World} (h : encE f = x) (hx : x ≠ 0) (hb : Below w.heap.size w w') : GivesZ w (encB f) (encE f) (.returned (.tuple #[.slice none 0 0, .int .i64 x])) w' := by
  have hB : encB f = [] := by unfold encB; rw [if_neg (by rw [h]; exact hx)]
  rw [hB, h]
  exact ⟨none, 0, rfl, .inl rfl, hb, Nat.le_refl _, fun _ => rfl⟩
set_option maxHeartbeats 1000000 in
theorem ref_encode_q (f : F) (A : Option Addr) (c : Nat) (w : World) (hsz : f.size < 1125899906842623) (hok : f.ok) (hsm : f.sq) (hs : SeesQ w (· < w.heap.size) A f) :
    Calls Tryd.prog 30 #[.slice A f.len c] w (GivesZ w (encB f) (encE f)) := by
  have hc := ref_check 1125899906842624 f A c 1 w (by omega) (Nat.le_refl _) hok (by decide) (by decide) hs.sees
  unfold RChkIs at hc
  obtain ⟨x, hx⟩ : ∃ x, x = chkE f 1 := ⟨_, rfl⟩
  rw [← hx] at hc
  have HC := Lib.hid hc
  clear hc
  by_cases h1 : x = 0
  · subst h1
    have HX := Lib.hid (show f.raw ∧ chkE f 1 = 0 from ⟨F.raw_of hx.symm hsm, hx.symm⟩)
    have HS := Lib.hid hs
    clear hx hsm hok hs
    go_enter Tryd.func30, Tryd.ntmps30
    go_wp2_with fail
    refine HC.out.mono ?_
    rintro e w1 ⟨rfl, hb1⟩
    have HB1 := Lib.hid hb1
    have HN := Lib.hid (ref_count 1125899906842624 f A c w1 _ (by omega) (Nat.le_refl _) (HS.out.sees.on hb1))
    clear hb1 HC
    go_wp2_with fail
    refine HN.out.mono ?_
    rintro e w2 ⟨m, rfl, hm, rfl⟩
    have HM := Lib.hid hm
    have hmf := hm.1
    clear hm HN
    by_cases h2 : 256 < f.size
    · have d1 : decide ((256 : Int) < (m : Int)) = true := by have := HM.out.2.2 h2; simp; omega
      have HF := Lib.hid (renc_fail (show encE f = 2 by unfold encE; rw [if_neg (by rw [HX.out.2]; decide), if_pos h2]) (by decide) HB1.out)
      clear h2 HX HS HM HB1
      go_wp2_with fail
      go_ret2
      exact HF.out
    · have d1 : decide ((256 : Int) < (m : Int)) = false := by have := HM.out.2.1 (by omega); simp; omega
      have HR := Lib.hid (ref_raw 1125899906842624 (by decide) f A c w2 (by omega) HX.out.1 (HS.out.on HB1.out))
      go_wp2_with fail
      refine HR.out.mono ?_
      rintro e w3 ⟨b, A3, c3, rfl, hcl, hcn, hss, he1, he2, hbl, hbw⟩
      have HZ := Lib.hid (show _ ∧ _ ∧ _ from ⟨hss, he1, he2⟩)
      have HB3 := Lib.hid (below_on HB1.out hbw)
      have hw2 := HB1.out.size
      have HC3 := Lib.hid (show b.length ≤ c3 ∧ (A3 = none → c3 = 0) from ⟨hcl, hcn⟩)
      clear hss he1 he2 hbw HR hcl hcn
      by_cases h3 : 4096 < encN f
      · have d2 : decide ((4096 : Int) < (b.length : Int)) = true := by have := HZ.out.2.2 h3; simp; omega
        have HF := Lib.hid (renc_fail (show encE f = 2 by unfold encE; rw [if_neg (by rw [HX.out.2]; decide), if_neg h2, if_pos h3]) (by decide) HB3.out)
        clear h2 h3 HX HS HM HB1 HZ HC3
        go_wp2_with fail
        go_ret2
        exact HF.out
      · have hbe := HZ.out.2.1 (by omega)
        have d2 : decide ((4096 : Int) < (b.length : Int)) = false := by have := enc_length f; rw [← hbe] at this; simp; omega
        have hE : encE f = 0 := by unfold encE; rw [if_neg (by rw [HX.out.2]; decide), if_neg h2, if_neg h3]
        have hB : encB f = b := by unfold encB; rw [if_pos hE, hbe]
        have HF := Lib.hid (show GivesZ w (encB f) (encE f) (.returned (.tuple #[.slice A3 b.length c3, .int .i64 0])) w3 from by
          rw [hB, hE]
          exact ⟨A3, c3, rfl, HZ.out.1.imp fun q hq => ⟨Nat.le_trans hw2 hq.1, hq.2⟩, HB3.out, HC3.out.1, HC3.out.2⟩)
        clear h2 h3 HX HS HM HB1 HZ HC3 hbe hE hB
        go_wp2_with fail
        go_ret2
        exact HF.out
  · have HF := Lib.hid (show ∀ w', Below w.heap.size w w' → GivesZ w (encB f) (encE f) (.returned (.tuple #[.slice none 0 0, .int .i64 x])) w' from fun w' hb => renc_fail (show encE f = x by unfold encE; rw [if_pos (by omega)]; exact hx.symm) h1 hb)
    have d1 : (x != 0) = true := by simpa using h1
    clear h1 hx hs hsm hok
    go_enter Tryd.func30, Tryd.ntmps30
    go_wp2_with fail
    refine HC.out.mono ?_
    rintro e w1 ⟨rfl, hb1⟩
    have HD := Lib.hid (HF.out _ hb1)
    clear hb1 HC HF
    go_wp2_with fail
    go_ret2
    exact HD.out
theorem ref_encode (f : F) (A : Option Addr) (c : Nat) (w : World) (hsz : f.size < 1125899906842623) (hok : f.ok) (hsm : f.sm) (hs : SeesF w (· < w.heap.size) A f) :
    Calls Tryd.prog 30 #[.slice A f.len c] w (GivesZ w (encB f) (encE f)) :=
  ref_encode_q f A c w hsz hok (F.sm_sq hsm) (hs.small hsm)
end Go.Proofs.YtmkggpgpiepjfaaDoor
