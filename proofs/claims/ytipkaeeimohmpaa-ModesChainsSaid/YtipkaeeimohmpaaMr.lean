/-
  What is proved here: what the reference's Pad and Unpad (of the sixth layer) answer, for bytes that lie in memory.
-/
import Derived.Test.YtipkaeeimohmpaaMp
import Derived.Test.YtipkaeeimohmpaaAp
namespace Go.Proofs.Ytipkaeeimohmpaa
open Go.RowKit
set_option linter.unusedVariables false

def padQ (n : Nat) : Nat := 15 - n % 16
theorem padM_def (l : List UInt8) : padM l = l ++ [128] ++ List.replicate (padQ l.length) 0 := rfl
theorem padQ_mod (n k : Nat) (h : k ≤ padQ n) : (n + 1 + k) % 16 = 0 ↔ k = padQ n := by unfold padQ at *; omega
/-- what Pad's loops keep -/
def PRel (w : World) (bs : List UInt8) (v : Value) (wr : World) : Prop := wr.ownsRow w.heap.size 5 1 v bs.length (Us bs) ∧ Below w.heap.size w wr
theorem PRel.snoc {w wr w2 : World} {bs : List UInt8} {v v2 : Value} {o : Obj} {b : UInt8} {u : Value} (h : PRel w bs v wr) (hu : u = U b) (ho : w2.ownsRow w.heap.size 5 1 v2 (bs.length + 1) (Us bs ++ [u])) (hg : (wr.alloc o).grownBy w2 v.ownBlock) : PRel w (bs ++ [b]) v2 w2 := by
  subst hu
  exact ⟨by rw [List.length_append, Us_append]; exact ho, below_own_alloc h.2 h.1 hg⟩
theorem one_u8 (u : Value) (b : UInt8) (h : u = U b) : ∀ x ∈ [u], x.oneCell' = true := by subst h; intro x hx; simp at hx; subst hx; rfl

theorem pad_zero {w wr w2 : World} {l : List UInt8} {k : Nat} {v v2 : Value} {o : Obj} (h : PRel w (l ++ [128] ++ List.replicate k 0) v wr) (ho : w2.ownsRow w.heap.size 5 1 v2 (l.length + 1 + k + 1) (Us (l ++ [128] ++ List.replicate k 0) ++ [.int .u8 0])) (hg : (wr.alloc o).grownBy w2 v.ownBlock) : PRel w (l ++ [128] ++ List.replicate (k + 1) 0) v2 w2 := by
  have hlk : (l ++ [128] ++ List.replicate k 0).length = l.length + 1 + k := by simp; omega
  have e : l ++ [128] ++ List.replicate (k + 1) 0 = l ++ [128] ++ List.replicate k 0 ++ [0] := by simp only [List.replicate_succ', List.append_assoc]
  rw [e]
  exact h.snoc (b := 0) rfl (by rw [hlk]; exact ho) hg
set_option maxHeartbeats 1000000 in
theorem ref_pad6 (l : List UInt8) (A : Option Addr) (c : Nat) (w : World) (hl : l.length ≤ 140737488351300) (hn : A = none → c = 0) (hs : SeesP w (· < w.heap.size) A (Us l)) :
    Calls Try.prog 11 #[.slice A l.length c] w (Mk w (padM l)) := by
  obtain ⟨i0, hi, hz0, hz1, hz2⟩ := info_parts info_u8p
  have hzz : padQ l.length < 16 := by unfold padQ; omega
  have HS := Lib.hid (show (A = none → c = 0) ∧ SeesP w (· < w.heap.size) A (Us l) from ⟨hn, hs⟩)
  clear hn hs
  go_enter Try.func11, Try.ntmps11
  go_wp2_with (first | (at_builtin; refine app_bytes rfl (.const (.slice none 0 0)) (.tmp 4) 22 rfl w.heap.size 5 i0 (.int .u8 0) Try.underlying22 hi hz0 hz1 hz2 rfl (.slice none 0 0) 0 [] rfl (World.ownsRow_nil _ _ _ _) A c l _ rfl HS.out.1 HS.out.2 (by unfold maxLen; omega) (by omega) (Nat.le_refl _) ?_; intro v1 w1 ho1 hg1; rw [Nat.zero_add, List.nil_append] at ho1; have P1 := Lib.hid (show PRel w l v1 w1 from ⟨ho1, (Below.refl _ _).grown hg1 (Nat.le_refl _) (fun k e => by cases e)⟩); have hsz1 := hg1.size; clear hg1) | (at_builtin; refine wpList_append_own _ rfl (.tmp 5) (.tmp 6) 22 rfl w.heap.size 5 i0 (.int .u8 0) 1 1 Try.underlying22 hi hz0 hz1 hz2 rfl (by decide) v1 l.length _ rfl (ho1.alloc _) ⟨_, 0, none⟩ 1 1 [.int .u8 128] rfl rfl (World.news_of_block (heap_alloc_new _ _)) (one_u8 _ 128 rfl) (by unfold maxLen; omega) (by omega) (by simp; omega) ?_; intro v2 w2 ho2 hg2 _; have P2 := Lib.hid (show PRel w (l ++ [128]) v2 w2 from P1.out.snoc rfl ho2 hg2); clear ho1 ho2 hg2 P1 hsz1))
  go_loopw [3] (fun v wr => ∃ k : Nat, k ≤ padQ l.length ∧ Hid (PRel w (l ++ [128] ++ List.replicate k 0) v wr)) (fun v _ => match v with | .slice _ n _ => (l.length + 1 + padQ l.length) - n | _ => 0)
  case atStart => exact ⟨0, Nat.zero_le _, Lib.hid (by simpa using P2.out)⟩
  case round =>
    clear P2
    obtain ⟨k, hk, HP⟩ := hrel
    have hlk : (l ++ [128] ++ List.replicate k 0).length = l.length + 1 + k := by simp; omega
    have ho := HP.out.1
    rw [hlk] at ho
    obtain ⟨A1, c1, rfl⟩ := own_len ho
    have hsz := HP.out.2.size
    clear hlk
    by_cases hkz : k = padQ l.length
    · have d1 : (((l.length : Int) + 1 + (k : Int)) % 16 != 0) = false := by
        have := (padQ_mod l.length k hk).2 hkz
        simp
        omega
      have HF := Lib.hid (show Mk w (padM l) (.returned (.slice A1 (l.length + 1 + k) c1)) wr from by
        rw [padM_def, ← hkz]
        exact mk_own ho HP.out.2 (by simp; omega))
      clear HP ho hkz
      go_wp2_with fail
      go_ret
      exact HF.out
    · have d1 : (((l.length : Int) + 1 + (k : Int)) % 16 != 0) = true := by
        have h := padQ_mod l.length k hk
        simp
        omega
      have hkl : k < padQ l.length := by omega
      go_wp2_with (at_builtin; refine wpList_append_own _ rfl (.tmp 12) (.tmp 13) 22 rfl w.heap.size 5 i0 (.int .u8 0) 1 1 Try.underlying22 hi hz0 hz1 hz2 rfl (by decide) (.slice A1 (l.length + 1 + k) c1) (l.length + 1 + k) _ rfl (ho.alloc _) ⟨_, 0, none⟩ 1 1 [.int .u8 0] rfl rfl (World.news_of_block (heap_alloc_new _ _)) (one_u8 _ 0 rfl) (by unfold maxLen; omega) (by omega) (by simp; omega) ?_; intro v2 w2 ho2 hg2 _; have P2 := Lib.hid (pad_zero HP.out ho2 hg2); obtain ⟨A2, c2, rfl⟩ := own_len ho2; clear ho ho2 hg2 HP)
      go_roundw
      case rel => exact ⟨k + 1, by omega, P2⟩
      case measure => simp; omega

set_option maxHeartbeats 1000000 in
theorem ref_unpad6 (l : List UInt8) (A : Option Addr) (c : Nat) (w : World) (hl : l.length ≤ 140737488351300) (hc : l.length ≤ c) (hs : SeesP w (· < w.heap.size) A (Us l)) :
    Calls Try.prog 10 #[.slice A l.length c] w (Gives w (unpB l) (unpE l)) := by
  obtain ⟨i0, hi, hz0, hz1, hz2⟩ := info_parts info_u8p
  have HS := Lib.hid hs
  by_cases h0 : l.length = 0
  · have eB : unpB l = [] := by simp [unpB, h0]
    have eE : unpE l = 2 := by simp [unpE, h0]
    rw [eB, eE]
    have d0 : ((l.length : Int) == 0) = true := by rw [h0]; rfl
    clear hs
    go_enter Try.func10, Try.ntmps10
    go_wp2
    go_ret2
    exact gives_none (Below.refl _ _)
  · have d0 : ((l.length : Int) == 0) = false := by rw [beq_eq_false_iff_ne]; omega
    by_cases h16 : l.length % 16 = 0
    · have d16 : (((l.length : Int) % 16) != 0) = false := by rw [bne_eq_false_iff_eq]; omega
      have eB : (∀ n, upN l 16 (l.length - 1) = some n → unpB l = l.take n ∧ unpE l = 0) ∧ (upN l 16 (l.length - 1) = none → unpB l = [] ∧ unpE l = 9) :=
        ⟨fun n hu => ⟨by simp [unpB, h0, h16, hu], by simp [unpE, h0, h16, hu]⟩, fun hu => ⟨by simp [unpB, h16, hu], by simp [unpE, h0, h16, hu]⟩⟩
      obtain ⟨b, o, rfl, hb, hcl⟩ := seen_addr hs (by omega)
      have HC := Lib.hid hcl
      have HBE := Lib.hid eB
      obtain ⟨B, hB⟩ : ∃ B, B = unpB l := ⟨_, rfl⟩
      obtain ⟨E, hE⟩ : ∃ E, E = unpE l := ⟨_, rfl⟩
      rw [← hB, ← hE] at HBE ⊢
      obtain ⟨N, hN⟩ : ∃ N, N = l.length := ⟨_, rfl⟩
      rw [← hN] at hl hc h0 d0 d16 h16 ⊢
      have h16N : 16 ≤ N := by omega
      have HN := Lib.hid hN
      clear eB hB hE hs hcl hN
      go_enter Try.func10, Try.ntmps10
      go_wp2
      go_loopw [4] (fun i wr => ∃ (k : Nat) (z : Int), k ≤ 16 ∧ i = .int .i64 z ∧ z = (N : Int) - 1 - (k : Int) ∧ Hid (upN l 16 (l.length - 1) = upN l (16 - k) (N - 1 - k)) ∧ Hid (Below w.heap.size w wr)) (fun i _ => (intOf i + 17 - (N : Int)).toNat)
      case atStart => exact ⟨0, (N : Int) - 1, by decide, rfl, by omega, Lib.hid (by rw [HN.out]; rfl), Lib.hid (Below.refl _ _)⟩
      case round =>
        obtain ⟨k, z, hk, rfl, hz, HU, HB⟩ := hrel
        by_cases hlt : k < 16
        · obtain ⟨m, hm⟩ : ∃ m, m = N - 1 - k := ⟨_, rfl⟩
          obtain rfl : z = (m : Int) := by omega
          have y1 := (HB.out.cell (p := ⟨b, o + m, none⟩) hb).trans (HC.out m (by have := HN.out; omega))
          obtain ⟨v, hv⟩ : ∃ v, v = l.getD m 0 := ⟨_, rfl⟩
          rw [← hv] at y1
          have i2 : (m : Int) < (N : Int) := by omega
          have i3 : (N : Int) - 16 ≤ (m : Int) := by omega
          have HU2 := Lib.hid (show upN l 16 (l.length - 1) = if v = 128 then some m else if v = 0 then upN l (16 - (k + 1)) (N - 1 - (k + 1)) else none from by
            rw [HU.out, show 16 - k = (16 - (k + 1)) + 1 by omega, upN, ← hm, ← hv, show N - 1 - (k + 1) = m - 1 by omega])
          have HM := Lib.hid (And.intro hm hv)
          clear HU hm hv hz
          by_cases h128 : v = 128
          · have dv : ((v.toNat : Int) == 128) = true := by rw [h128]; rfl
            have HV2 := Lib.hid (show B = l.take m ∧ E = 0 from by
              have h := HU2.out
              rw [if_pos h128] at h
              exact HBE.out.1 _ h)
            have hmc : m ≤ c := by omega
            have HT := Lib.hid (show SeesP wr (· < wr.heap.size) (some ⟨b, o, none⟩) (Us (l.take m)) from by
              rw [Us_take]
              have h := (HS.out.keep fun q hq => HB.out.cell hq).imp (p' := (· < wr.heap.size)) fun q hq => Nat.lt_of_lt_of_le hq HB.out.size
              exact SeesP.iff_sees.2 ((SeesP.iff_sees.1 h).take m))
            have hmt : (l.take m).length = m := by rw [List.length_take]; have := HN.out; omega
            have HMT := Lib.hid hmt
            clear HBE HU2 HC HM hmt
            go_wp2_with (at_builtin; refine app_bytes rfl (.const (.slice none 0 0)) (.tmp 31) 22 rfl w.heap.size 5 i0 (.int .u8 0) Try.underlying22 hi hz0 hz1 hz2 rfl (.slice none 0 0) 0 [] rfl (World.ownsRow_nil _ _ _ _) (some ⟨b, o, none⟩) c (l.take m) _ (by rw [HMT.out]; rfl) (fun e => by cases e) HT.out (by unfold maxLen; have := HMT.out; omega) (by have := HMT.out; omega) HB.out.size ?_; intro v1 w1 ho1 hg1; rw [Nat.zero_add, List.nil_append] at ho1; have P1 := Lib.hid (show Gives w B E (.returned (.tuple #[v1, .int .i64 0])) w1 from by
              rw [HV2.out.1, HV2.out.2]
              exact gives_own ho1 (HB.out.grown hg1 HB.out.size (fun k e => by cases e)) rfl); clear ho1 hg1)
            go_ret2
            exact P1.out
          · have dv : ((v.toNat : Int) == 128) = false := by
              have : v.toNat ≠ 128 := fun e => h128 (UInt8.toNat.inj e)
              simp; omega
            by_cases hz : v = 0
            · have dz : ((v.toNat : Int) != 0) = false := by rw [hz]; rfl
              have HV2 := Lib.hid (show upN l 16 (l.length - 1) = upN l (16 - (k + 1)) (N - 1 - (k + 1)) from by
                have h := HU2.out
                rwa [if_neg h128, if_pos hz] at h)
              clear HU2 HC
              go_wp2
              go_roundw
              case rel => exact ⟨k + 1, (m : Int) - 1, by omega, rfl, by have := HM.out.1; omega, HV2, HB⟩
              case measure => simp [intOf]; omega
            · have dz : ((v.toNat : Int) != 0) = true := by
                have : v.toNat ≠ 0 := fun e => hz (UInt8.toNat.inj e)
                simp; omega
              have HV2 := Lib.hid (show B = [] ∧ E = 9 from by
                have h := HU2.out
                rw [if_neg h128, if_neg hz] at h
                exact HBE.out.2 h)
              clear HU2 HC HBE
              go_wp2
              go_ret2
              rw [HV2.out.1, HV2.out.2]
              exact gives_none HB.out
        · obtain rfl : k = 16 := by omega
          have HV2 := Lib.hid (show B = [] ∧ E = 9 from by
            have h := HU.out
            have e : upN l (16 - 16) (N - 1 - 16) = none := rfl
            rw [e] at h
            exact HBE.out.2 h)
          have i3 : z < (N : Int) - 16 := by omega
          clear HU HC HBE
          go_wp2
          go_ret2
          rw [HV2.out.1, HV2.out.2]
          exact gives_none HB.out
    · have d16 : (((l.length : Int) % 16) != 0) = true := by rw [bne_iff_ne]; omega
      have eB : unpB l = [] := by simp [unpB, h16]
      have eE : unpE l = 2 := by simp [unpE, h16]
      rw [eB, eE]
      clear hs
      go_enter Try.func10, Try.ntmps10
      go_wp2
      go_ret2
      exact gives_none (Below.refl _ _)

end Go.Proofs.Ytipkaeeimohmpaa
