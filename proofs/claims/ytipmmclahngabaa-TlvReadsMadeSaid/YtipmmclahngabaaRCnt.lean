/-
  What is proved here: what the reference's Count returns for the limit 256, and its length.
-/
import Derived.Test.YtipmmclahngabaaRows
import Derived.Test.YtipmmclahngabaaKit
import Derived.Test.YtipmmclahngabaaChk
import Derived.Test.YtipmmclahngabaaPar
import Derived.Test.YtipmmclahngabaaApl
namespace Go.Proofs.Ytipmmclahngabaa
open Go.RowKit
set_option linter.unusedVariables false

def CntOk (s m : Nat) : Prop := m ≤ s ∧ (s ≤ 256 → m = s) ∧ (256 < s → 256 < m)
def RCntIs (f : F) (w : World) (e : Ending) (w' : World) : Prop := ∃ m : Nat, e = .returned (.int .i64 (m : Int)) ∧ CntOk f.size m ∧ w' = w
set_option maxHeartbeats 1000000 in
theorem ref_count (n : Nat) : ∀ (f : F) (A : Option Addr) (c : Nat) (w : World) (p : Nat → Prop), f.size < n → n ≤ 1125899906842624 → SeesF w p A f →
    Calls Try.prog 43 #[.slice A f.len c, .int .i64 256] w (RCntIs f w) := by
  induction n with
  | zero => intro f A c w p hn; omega
  | succ n ih =>
    intro f A c w p hn hb hs
    obtain ⟨cs, s1, s2⟩ := hs
    have hlen := f.len_le_size
    have S2 := Lib.hid s2
    have S1 := Lib.hid s1
    have IH := Lib.hid ih
    clear s2 ih s1
    go_enter Try.func43, Try.ntmps43
    go_wp2_with fail
    go_loopw [5, 6] (fun q i wr => ∃ (k m z : Nat) (g : F), k + g.len = f.len ∧ i = .int .i64 k ∧ q = .int .i64 m ∧ z + g.size = f.size ∧ Hid (CntOk z m) ∧ m ≤ f.size ∧ Hid (HoldsP w p g (cs.drop (3 * k))) ∧ wr = w) (fun _ i _ => f.len - (intOf i).toNat)
    case atStart => exact ⟨0, 0, 0, f, by omega, rfl, rfl, by omega, Lib.hid ⟨Nat.le_refl _, fun _ => rfl, fun h => by omega⟩, by omega, Lib.hid S2.out, rfl⟩
    case round =>
      clear S2
      obtain ⟨k, m, z, g, hk, rfl, rfl, hz, HC, hm, HG, rfl⟩ := hrel
      cases g with
      | nil =>
        have hz2 : z = f.size := hz
        have HD := Lib.hid (show RCntIs f wr (.returned (.int .i64 (m : Int))) wr from ⟨m, rfl, by rw [← hz2]; exact HC.out, rfl⟩)
        have hk2 : k = f.len := hk
        have dk : decide ((k : Int) < (f.len : Int)) = false := by simp; omega
        clear hk HG hz HC hz2
        go_wp2_with fail
        go_ret
        exact HD.out
      | cons t v kk r =>
        have hk1 : k + r.len + 1 = f.len := hk
        have hz1 : z + (kk.size + r.size + 1) = f.size := by simp only [F.size] at hz; omega
        obtain ⟨b, off, Av, cv, Ak, ck, rfl, hp, g0, g1, g2, sv, sk, hr, hnv⟩ := node_at S1.out HG.out
        have HR := Lib.hid hr
        have hlt : k < f.len := by omega
        have dk : decide ((k : Int) < (f.len : Int)) = true := by simp; omega
        have HI := Lib.hid (IH.out kk Ak ck wr p (by omega) (by omega) sk)
        clear hk hr sk sv hnv g0 g1 hz
        by_cases h256 : m ≤ 256
        · have d1 : decide ((m : Int) ≤ 256) = true := by simp; omega
          clear h256
          go_wp2_with fail
          refine HI.out.mono ?_
          rintro e w' ⟨q, rfl, hq, rfl⟩
          have HQ := Lib.hid hq
          have hqs := hq.1
          clear hq HI
          have HF := Lib.hid (show CntOk (z + 1 + kk.size) (m + (1 + q)) from by
            have hm256 := of_decide_eq_true d1
            obtain ⟨a1, a2, a3⟩ := HC.out
            obtain ⟨b1, b2, b3⟩ := HQ.out
            refine ⟨by omega, fun h => ?_, fun h => ?_⟩
            · have := a2 (by omega); have := b2 (by omega); omega
            · by_cases h1 : kk.size ≤ 256
              · have := b2 h1
                by_cases h2 : z ≤ 256
                · have := a2 h2; omega
                · have := a3 (by omega); omega
              · have := b3 (by omega); omega)
          have hcm := HC.out.1
          go_wp2_with fail
          go_roundw
          case rel => exact ⟨k + 1, m + (1 + q), z + 1 + kk.size, r, by omega, by go_num, by go_num, by omega, HF, by omega, HR, trivial⟩
          case measure => simp [intOf]; omega
        · have d1 : decide ((m : Int) ≤ 256) = false := by simp; omega
          have hzz : 256 < z := by have := HC.out.1; omega
          have HD := Lib.hid (show RCntIs f wr (.returned (.int .i64 (m : Int))) wr from ⟨m, rfl, ⟨hm, fun h => by omega, fun h => by omega⟩, rfl⟩)
          clear h256 HI HC HR IH
          go_wp2_with fail
          go_ret
          exact HD.out

theorem lenL_1 {n : Nat} (h : n ≤ 127) : lenL n = [UInt8.ofNat n] := by unfold lenL; rw [if_pos h]
theorem lenL_2 {n : Nat} (h : 127 < n) (h2 : n ≤ 255) : lenL n = [129, UInt8.ofNat n] := by
  unfold lenL; rw [if_neg (by omega), lb_1 h (by omega)]
  simp [lenD]
theorem lenL_3 {n : Nat} (h : 255 < n) (h2 : n ≤ 65535) : lenL n = [130, UInt8.ofNat (n / 256), UInt8.ofNat n] := by
  unfold lenL; rw [if_neg (by omega), lb_2 (by omega) (by omega)]
  simp [lenD, List.range_succ]
/-- a slice of the call's own with these bytes -/
def MadeIs (w : World) (l : List UInt8) (e : Ending) (w' : World) : Prop := ∃ g, e = .returned (.slice (some ⟨g, 0, none⟩) l.length l.length) ∧ SeesP w' (newB w w') (some ⟨g, 0, none⟩) (Us l) ∧ Below w.heap.size w w'
theorem made_is {w : World} {cells : Array Value} {l : List UInt8} {n : Nat} (h : cells.toList = Us l) (hn : n = l.length) : MadeIs w l (.returned (.slice (some ⟨w.heap.size, 0, none⟩) n n)) (w.alloc (.cells cells 5)) := by
  subst hn
  refine ⟨_, rfl, .inr ⟨_, 0, rfl, ⟨Nat.le_refl _, by simp⟩, fun i hi => ?_⟩, (Below.refl _ _).alloc (Nat.le_refl _) _⟩
  rw [Nat.zero_add, cell_of_row _ w.heap.size i cells _ (0, 0) (heap_alloc_new w _), ← h, Array.getElem?_toList]
theorem ref_length (n : Nat) (h : n ≤ 65535) (w : World) : Calls Try.prog 61 #[.int .i64 (n : Int)] w (MadeIs w (lenL n)) := by
  by_cases h1 : n ≤ 127
  · have d1 : decide ((n : Int) ≤ 127) = true := by simp; omega
    have HF := Lib.hid (made_is (w := w) (cells := #[.int .u8 (n : Int)]) (l := lenL n) (n := 1) (by rw [lenL_1 h1]; simp [Us, U]; omega) (by rw [lenL_1 h1]; rfl))
    go_enter Try.func61, Try.ntmps61
    go_wp2_with fail
    go_ret
    exact HF.out
  · have d1 : decide ((n : Int) ≤ 127) = false := by simp; omega
    by_cases h2 : n ≤ 255
    · have d2 : decide ((n : Int) ≤ 255) = true := by simp; omega
      have HF := Lib.hid (made_is (w := w) (cells := #[.int .u8 129, .int .u8 (n : Int)]) (l := lenL n) (n := 2) (by rw [lenL_2 (by omega) h2]; simp [Us, U]; omega) (by rw [lenL_2 (by omega) h2]; rfl))
      go_enter Try.func61, Try.ntmps61
      go_wp2_with fail
      go_ret
      exact HF.out
    · have d2 : decide ((n : Int) ≤ 255) = false := by simp; omega
      have HF := Lib.hid (made_is (w := w) (cells := #[.int .u8 130, .int .u8 ((n : Int) / 256), .int .u8 ((n : Int) % 256)]) (l := lenL n) (n := 3) (by rw [lenL_3 (by omega) h]; simp [Us, U]; omega) (by rw [lenL_3 (by omega) h]; rfl))
      go_enter Try.func61, Try.ntmps61
      go_wp2_with fail
      go_ret
      exact HF.out

end Go.Proofs.Ytipmmclahngabaa
