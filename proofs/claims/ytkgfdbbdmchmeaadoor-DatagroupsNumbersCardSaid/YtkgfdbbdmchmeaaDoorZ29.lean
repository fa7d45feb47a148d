/-
  What is proved here: plain words for lists of objects in memory whose long Values lie within their capacity, with no condition; nothing of the program is used.
-/
import Derived.Test.YtkgfdbbdmchmeaaDoorZ0
import Derived.Test.YtkgfdbbdmchmeaaDoorRows
import Derived.Test.YtkgfdbbdmchmeaaDoorZ4
import Derived.Test.YtkgfdbbdmchmeaaDoorZ9
import Derived.Test.YtkgfdbbdmchmeaaDoorZ6
namespace Go.Proofs.YtkgfdbbdmchmeaaDoor
open Go.RowKit
set_option maxRecDepth 8000
def HoldsQ (w : World) (p : Nat → Prop) : F → List Value → Prop
  | .nil, cs => cs = []
  | .cons t v k r, cs => ∃ Av cv Ak ck ks cs', cs = .int .i64 t :: .slice Av v.length cv :: .slice Ak k.len ck :: cs' ∧ ((Av = none → cv = 0) ∧ (4096 < v.length → v.length ≤ cv)) ∧ SeesP w p Av (Us v) ∧ SeesP w p Ak ks ∧ HoldsQ w p k ks ∧ HoldsQ w p r cs'
def SeesQ (w : World) (p : Nat → Prop) (A : Option Addr) (f : F) : Prop := ∃ cs, SeesP w p A cs ∧ HoldsQ w p f cs
section
variable {w w' : World} {p p' : Nat → Prop} {A : Option Addr} {cs : List Value}
theorem HoldsQ.holds : ∀ {f : F} {cs : List Value}, HoldsQ w p f cs → HoldsP w p f cs
  | .nil, _, h => h
  | .cons _ _ _ _, _, ⟨Av, cv, Ak, ck, ks, cs', e, h0, h1, h2, h3, h4⟩ => ⟨Av, cv, Ak, ck, ks, cs', e, h0.1, h1, h2, HoldsQ.holds h3, HoldsQ.holds h4⟩
theorem HoldsQ.keep (hk : ∀ q : Addr, p q.block → w'.cell? q = w.cell? q) : ∀ {f : F} {cs : List Value}, HoldsQ w p f cs → HoldsQ w' p f cs
  | .nil, _, h => h
  | .cons _ _ _ _, _, ⟨Av, cv, Ak, ck, ks, cs', e, h0, h1, h2, h3, h4⟩ => ⟨Av, cv, Ak, ck, ks, cs', e, h0, h1.keep hk, h2.keep hk, HoldsQ.keep hk h3, HoldsQ.keep hk h4⟩
theorem HoldsQ.imp (hp : ∀ b, p b → p' b) : ∀ {f : F} {cs : List Value}, HoldsQ w p f cs → HoldsQ w p' f cs
  | .nil, _, h => h
  | .cons _ _ _ _, _, ⟨Av, cv, Ak, ck, ks, cs', e, h0, h1, h2, h3, h4⟩ => ⟨Av, cv, Ak, ck, ks, cs', e, h0, h1.imp hp, h2.imp hp, HoldsQ.imp hp h3, HoldsQ.imp hp h4⟩
theorem SeesQ.sees {f : F} (h : SeesQ w p A f) : SeesF w p A f := by
  obtain ⟨cs, h1, h2⟩ := h
  exact ⟨cs, h1, h2.holds⟩
theorem SeesQ.keep {f : F} (h : SeesQ w p A f) (hk : ∀ q : Addr, p q.block → w'.cell? q = w.cell? q) : SeesQ w' p A f := by
  obtain ⟨cs, h1, h2⟩ := h
  exact ⟨cs, h1.keep hk, HoldsQ.keep hk h2⟩
theorem SeesQ.imp {f : F} (h : SeesQ w p A f) (hp : ∀ b, p b → p' b) : SeesQ w p' A f := by
  obtain ⟨cs, h1, h2⟩ := h
  exact ⟨cs, h1.imp hp, HoldsQ.imp hp h2⟩
theorem SeesQ.on {f : F} (h : SeesQ w (· < w.heap.size) A f) (hb : Below w.heap.size w w') : SeesQ w' (· < w'.heap.size) A f :=
  (h.keep fun _ hq => hb.cell hq).imp fun _ hb2 => Nat.lt_of_lt_of_le hb2 hb.size
theorem node_atQ {k : Nat} {t : Int} {v : List UInt8} {kk r : F} (h : SeesP w p A cs) (hh : HoldsQ w p (.cons t v kk r) (cs.drop (3 * k))) :
    ∃ b off Av cv Ak ck, A = some ⟨b, off, none⟩ ∧ p b ∧ w.cell? ⟨b, off + k * 3, none⟩ = some (.int .i64 t) ∧ w.cell? ⟨b, off + k * 3 + 1, none⟩ = some (.slice Av v.length cv) ∧
      w.cell? ⟨b, off + k * 3 + 2, none⟩ = some (.slice Ak kk.len ck) ∧ SeesP w p Av (Us v) ∧ SeesQ w p Ak kk ∧ HoldsQ w p r (cs.drop (3 * (k + 1))) ∧ (Av = none → cv = 0) ∧ (4096 < v.length → v.length ≤ cv) := by
  obtain ⟨Av, cv, Ak, ck, ks, cs', e, h0, h1, h2, h3, h4⟩ := hh
  have hl : 3 * k + 2 < cs.length := by
    have := congrArg List.length e
    simp only [List.length_drop, List.length_cons] at this
    omega
  have e0 : cs[3 * k]? = some (.int .i64 t) := by
    have := congrArg (·[0]?) e
    simpa using this
  have e1 : cs[3 * k + 1]? = some (.slice Av v.length cv) := by
    have := congrArg (·[1]?) e
    simpa using this
  have e2 : cs[3 * k + 2]? = some (.slice Ak kk.len ck) := by
    have := congrArg (·[2]?) e
    simpa using this
  have e3 : cs.drop (3 * (k + 1)) = cs' := by
    have := congrArg (·.drop 3) e
    simp only [List.drop_drop, List.drop_succ_cons, List.drop_zero] at this
    rw [← this]; congr 1
  rcases h with h | ⟨b, off, rfl, hb, hc⟩
  · subst h; simp at hl
  · rw [Nat.mul_comm] at e0 e1 e2
    refine ⟨b, off, Av, cv, Ak, ck, rfl, hb, (hc _ (by omega)).trans e0, ?_, ?_, h1, ⟨ks, h2, h3⟩, by rw [e3]; exact h4, h0.1, h0.2⟩
    · rw [Nat.add_assoc]; exact (hc _ (by omega)).trans e1
    · rw [Nat.add_assoc]; exact (hc _ (by omega)).trans e2
end
def F.sm : F → Prop
  | .nil => True
  | .cons _ v k r => v.length ≤ 4096 ∧ k.sm ∧ r.sm
def F.sq : F → Prop
  | .nil => True
  | .cons _ v k r => v.length ≤ 5000 ∧ k.sq ∧ r.sq
theorem F.sm_sq : ∀ {f : F}, f.sm → f.sq
  | .nil, _ => trivial
  | .cons _ _ _ _, ⟨h1, h2, h3⟩ => ⟨by omega, F.sm_sq h2, F.sm_sq h3⟩
theorem HoldsP.small {w : World} {p : Nat → Prop} : ∀ {f : F} {cs : List Value}, HoldsP w p f cs → f.sm → HoldsQ w p f cs
  | .nil, _, h, _ => h
  | .cons _ _ _ _, _, ⟨Av, cv, Ak, ck, ks, cs', e, h0, h1, h2, h3, h4⟩, ⟨s1, s2, s3⟩ => ⟨Av, cv, Ak, ck, ks, cs', e, ⟨h0, fun h => by omega⟩, h1, h2, HoldsP.small h3 s2, HoldsP.small h4 s3⟩
theorem SeesF.small {w : World} {p : Nat → Prop} {A : Option Addr} {f : F} (h : SeesF w p A f) (hs : f.sm) : SeesQ w p A f := by
  obtain ⟨cs, h1, h2⟩ := h
  exact ⟨cs, h1, h2.small hs⟩
end Go.Proofs.YtkgfdbbdmchmeaaDoor
namespace Go.Proofs.YtkgfdbbdmchmeaaDoor
open Go.RowKit
set_option maxRecDepth 8000
set_option linter.unusedVariables false
def CntOk (s m : Nat) : Prop := m ≤ s ∧ (s ≤ 256 → m = s) ∧ (256 < s → 256 < m)
def RCntIs (f : F) (w : World) (e : Ending) (w' : World) : Prop := ∃ m : Nat, e = .returned (.int .i64 (m : Int)) ∧ CntOk f.size m ∧ w' = w
set_option maxHeartbeats 1000000 in
theorem ref_count (n : Nat) : ∀ (f : F) (A : Option Addr) (c : Nat) (w : World) (p : Nat → Prop), f.size < n → n ≤ 1125899906842624 → SeesF w p A f →
    Calls Tryd.prog 45 #[.slice A f.len c, .int .i64 256] w (RCntIs f w) := by
  induction n with
  | zero => intro f A c w p hn; omega
  | succ n ih =>
    intro f A c w p hn hb hs
    obtain ⟨cs, s1, s2⟩ := hs
    have hlen := f.len_le_size
    have S2 := Lib.hid s2
    have S1 := Lib.hid s1
    have IH := Lib.hid ih
    clear s2 ih s1
    go_enter Tryd.func45, Tryd.ntmps45
    go_wp2_with fail
    go_loopw [5, 6] (fun q i wr => ∃ (k m z : Nat) (g : F), k + g.len = f.len ∧ i = .int .i64 k ∧ q = .int .i64 m ∧ z + g.size = f.size ∧ Hid (CntOk z m) ∧ m ≤ f.size ∧ Hid (HoldsP w p g (cs.drop (3 * k))) ∧ wr = w) (fun _ i _ => f.len - (intOf i).toNat)
    case atStart => exact ⟨0, 0, 0, f, by omega, rfl, rfl, by omega, Lib.hid ⟨Nat.le_refl _, fun _ => rfl, fun h => by omega⟩, by omega, Lib.hid S2.out, rfl⟩
    case round =>
      clear S2
      obtain ⟨k, m, z, g, hk, rfl, rfl, hz, HC, hm, HG, rfl⟩ := hrel
      cases g with
      | nil =>
        have hz2 : z = f.size := hz
        have HD := Lib.hid (show RCntIs f wr (.returned (.int .i64 (m : Int))) wr from ⟨m, rfl, by rw [← hz2]; exact HC.out, rfl⟩)
        have hk2 : k = f.len := hk
        have dk : decide ((k : Int) < (f.len : Int)) = false := by simp; omega
        clear hk HG hz HC hz2
        go_wp2_with fail
        go_ret
        exact HD.out
      | cons t v kk r =>
        have hk1 : k + r.len + 1 = f.len := hk
        have hz1 : z + (kk.size + r.size + 1) = f.size := by simp only [F.size] at hz; omega
        obtain ⟨b, off, Av, cv, Ak, ck, rfl, hp, g0, g1, g2, sv, sk, hr, hnv⟩ := node_at S1.out HG.out
        have HR := Lib.hid hr
        have hlt : k < f.len := by omega
        have dk : decide ((k : Int) < (f.len : Int)) = true := by simp; omega
        have HI := Lib.hid (IH.out kk Ak ck wr p (by omega) (by omega) sk)
        clear hk hr sk sv hnv g0 g1 hz
        by_cases h256 : m ≤ 256
        · have d1 : decide ((m : Int) ≤ 256) = true := by simp; omega
          clear h256
          go_wp2_with fail
          refine HI.out.mono ?_
          rintro e w' ⟨q, rfl, hq, rfl⟩
          have HQ := Lib.hid hq
          have hqs := hq.1
          clear hq HI
          have HF := Lib.hid (show CntOk (z + 1 + kk.size) (m + (1 + q)) from by
            have hm256 := of_decide_eq_true d1
            obtain ⟨a1, a2, a3⟩ := HC.out
            obtain ⟨b1, b2, b3⟩ := HQ.out
            refine ⟨by omega, fun h => ?_, fun h => ?_⟩
            · have := a2 (by omega); have := b2 (by omega); omega
            · by_cases h1 : kk.size ≤ 256
              · have := b2 h1
                by_cases h2 : z ≤ 256
                · have := a2 h2; omega
                · have := a3 (by omega); omega
              · have := b3 (by omega); omega)
          have hcm := HC.out.1
          go_wp2_with fail
          go_roundw
          case rel => exact ⟨k + 1, m + (1 + q), z + 1 + kk.size, r, by omega, by go_num, by go_num, by omega, HF, by omega, HR, trivial⟩
          case measure => simp [intOf]; omega
        · have d1 : decide ((m : Int) ≤ 256) = false := by simp; omega
          have hzz : 256 < z := by have := HC.out.1; omega
          have HD := Lib.hid (show RCntIs f wr (.returned (.int .i64 (m : Int))) wr from ⟨m, rfl, ⟨hm, fun h => by omega, fun h => by omega⟩, rfl⟩)
          clear h256 HI HC HR IH
          go_wp2_with fail
          go_ret
          exact HD.out
theorem lenL_1 {n : Nat} (h : n ≤ 127) : lenL n = [UInt8.ofNat n] := by unfold lenL; rw [if_pos h]
theorem lenL_2 {n : Nat} (h : 127 < n) (h2 : n ≤ 255) : lenL n = [129, UInt8.ofNat n] := by
  unfold lenL; rw [if_neg (by omega), lb_1 h (by omega)]
  simp [lenD]
theorem lenL_3 {n : Nat} (h : 255 < n) (h2 : n ≤ 65535) : lenL n = [130, UInt8.ofNat (n / 256), UInt8.ofNat n] := by
  unfold lenL; rw [if_neg (by omega), lb_2 (by omega) (by omega)]
  simp [lenD, List.range_succ]
def MadeIs (w : World) (l : List UInt8) (e : Ending) (w' : World) : Prop := ∃ g, e = .returned (.slice (some ⟨g, 0, none⟩) l.length l.length) ∧ SeesP w' (newB w w') (some ⟨g, 0, none⟩) (Us l) ∧ Below w.heap.size w w'
theorem made_is {w : World} {cells : Array Value} {l : List UInt8} {n : Nat} (h : cells.toList = Us l) (hn : n = l.length) : MadeIs w l (.returned (.slice (some ⟨w.heap.size, 0, none⟩) n n)) (w.alloc (.cells cells 5)) := by
  subst hn
  refine ⟨_, rfl, .inr ⟨_, 0, rfl, ⟨Nat.le_refl _, by simp⟩, fun i hi => ?_⟩, (Below.refl _ _).alloc (Nat.le_refl _) _⟩
  rw [Nat.zero_add, cell_of_row _ w.heap.size i cells _ (0, 0) (heap_alloc_new w _), ← h, Array.getElem?_toList]
theorem ref_length (n : Nat) (h : n ≤ 65535) (w : World) : Calls Tryd.prog 62 #[.int .i64 (n : Int)] w (MadeIs w (lenL n)) := by
  by_cases h1 : n ≤ 127
  · have d1 : decide ((n : Int) ≤ 127) = true := by simp; omega
    have HF := Lib.hid (made_is (w := w) (cells := #[.int .u8 (n : Int)]) (l := lenL n) (n := 1) (by rw [lenL_1 h1]; simp [Us, U]; omega) (by rw [lenL_1 h1]; rfl))
    go_enter Tryd.func62, Tryd.ntmps62
    go_wp2_with fail
    go_ret
    exact HF.out
  · have d1 : decide ((n : Int) ≤ 127) = false := by simp; omega
    by_cases h2 : n ≤ 255
    · have d2 : decide ((n : Int) ≤ 255) = true := by simp; omega
      have HF := Lib.hid (made_is (w := w) (cells := #[.int .u8 129, .int .u8 (n : Int)]) (l := lenL n) (n := 2) (by rw [lenL_2 (by omega) h2]; simp [Us, U]; omega) (by rw [lenL_2 (by omega) h2]; rfl))
      go_enter Tryd.func62, Tryd.ntmps62
      go_wp2_with fail
      go_ret
      exact HF.out
    · have d2 : decide ((n : Int) ≤ 255) = false := by simp; omega
      have HF := Lib.hid (made_is (w := w) (cells := #[.int .u8 130, .int .u8 ((n : Int) / 256), .int .u8 ((n : Int) % 256)]) (l := lenL n) (n := 3) (by rw [lenL_3 (by omega) h]; simp [Us, U]; omega) (by rw [lenL_3 (by omega) h]; rfl))
      go_enter Tryd.func62, Tryd.ntmps62
      go_wp2_with fail
      go_ret
      exact HF.out
end Go.Proofs.YtkgfdbbdmchmeaaDoor
