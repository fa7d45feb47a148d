/-
  What is proved here: what the reference's Pad answers, for bytes that lie in memory.
-/
import Derived.Test.YtaikoeoabgkglaaDoorRows
import Derived.Test.YtaikoeoabgkglaaDoorKit
import Derived.Test.YtaikoeoabgkglaaDoorAp
namespace Go.Proofs.YtaikoeoabgkglaaDoor
open Go.RowKit
set_option linter.unusedVariables false

/-- how many zeros -/
def padZ (n : Nat) : Nat := (119 - n % 64) % 64
def len8 (n k : Nat) : List UInt8 := (List.range k).map fun j => UInt8.ofNat (8 * n / 256 ^ (7 - j))
def padL (l : List UInt8) : List UInt8 := l ++ [128] ++ List.replicate (padZ l.length) 0 ++ len8 l.length 8
theorem len8_length (n k : Nat) : (len8 n k).length = k := by simp [len8]
theorem len8_snoc (n k : Nat) : len8 n (k + 1) = len8 n k ++ [UInt8.ofNat (8 * n / 256 ^ (7 - k))] := by simp [len8, List.range_succ]
theorem padL_length (l : List UInt8) : (padL l).length = l.length + 1 + padZ l.length + 8 := by simp [padL, len8_length]; omega
theorem padZ_mod (n k : Nat) (h : k ≤ padZ n) : (n + 1 + k) % 64 = 56 ↔ k = padZ n := by unfold padZ at *; omega
theorem info_u8p : (Tryd.prog.info? 5).map (fun i => (i.zero, i.size, i.bytes)) = some (some (.int .u8 0), 1, 1) := by kernel_rfl

/-- what Pad's loops keep -/
def PRel (w : World) (bs : List UInt8) (v : Value) (wr : World) : Prop := wr.ownsRow w.heap.size 5 1 v bs.length (Us bs) ∧ Below w.heap.size w wr
theorem PRel.snoc {w wr w2 : World} {bs : List UInt8} {v v2 : Value} {o : Obj} {b : UInt8} {u : Value} (h : PRel w bs v wr) (hu : u = U b) (ho : w2.ownsRow w.heap.size 5 1 v2 (bs.length + 1) (Us bs ++ [u])) (hg : (wr.alloc o).grownBy w2 v.ownBlock) : PRel w (bs ++ [b]) v2 w2 := by
  subst hu
  exact ⟨by rw [List.length_append, Us_append]; exact ho, below_own_alloc h.2 h.1 hg⟩
theorem one_u8 (u : Value) (b : UInt8) (h : u = U b) : ∀ x ∈ [u], x.oneCell' = true := by subst h; intro x hx; simp at hx; subst hx; rfl

theorem pad_zero {w wr w2 : World} {l : List UInt8} {k : Nat} {v v2 : Value} {o : Obj} (h : PRel w (l ++ [128] ++ List.replicate k 0) v wr) (ho : w2.ownsRow w.heap.size 5 1 v2 (l.length + 1 + k + 1) (Us (l ++ [128] ++ List.replicate k 0) ++ [.int .u8 0])) (hg : (wr.alloc o).grownBy w2 v.ownBlock) : PRel w (l ++ [128] ++ List.replicate (k + 1) 0) v2 w2 := by
  have hlk : (l ++ [128] ++ List.replicate k 0).length = l.length + 1 + k := by simp; omega
  have e : l ++ [128] ++ List.replicate (k + 1) 0 = l ++ [128] ++ List.replicate k 0 ++ [0] := by simp only [List.replicate_succ', List.append_assoc]
  rw [e]
  exact h.snoc (b := 0) rfl (by rw [hlk]; exact ho) hg
theorem pad_byte (n m : Nat) : Value.int .u8 (8 * (n : Int) / 2 ^ (8 * m) % 256) = U (UInt8.ofNat (8 * n / 256 ^ m)) := by
  have e : (8 * (n : Int)) / 2 ^ (8 * m) = ((8 * n / 256 ^ m : Nat) : Int) := by
    rw [show (256 : Nat) = 2 ^ 8 from rfl, ← Nat.pow_mul]; simp
  rw [e]
  unfold U
  rw [UInt8.toNat_ofNat']
  congr 1
theorem pad_num {w wr w2 : World} {l bs : List UInt8} {k j m : Nat} {v v2 : Value} {o : Obj} (h : PRel w (bs ++ len8 l.length j) v wr) (hm : m = 7 - j) (hn : (bs ++ len8 l.length j).length = k) (ho : w2.ownsRow w.heap.size 5 1 v2 (k + 1) (Us (bs ++ len8 l.length j) ++ [.int .u8 (8 * (l.length : Int) / 2 ^ (8 * m) % 256)])) (hg : (wr.alloc o).grownBy w2 v.ownBlock) : PRel w (bs ++ len8 l.length (j + 1)) v2 w2 := by
  subst hn
  rw [len8_snoc, ← List.append_assoc, ← hm]
  exact h.snoc (pad_byte l.length m) ho hg
set_option maxHeartbeats 1000000 in
theorem ref_pad (l : List UInt8) (A : Option Addr) (c : Nat) (w : World) (hl : l.length ≤ 140737488351500) (hn : A = none → c = 0) (hs : SeesP w (· < w.heap.size) A (Us l)) :
    Calls Tryd.prog 44 #[.slice A l.length c] w (Mk w (padL l)) := by
  obtain ⟨i0, hi, hz0, hz1, hz2⟩ := info_parts info_u8p
  have hzz : padZ l.length < 64 := by unfold padZ; omega
  have HS := Lib.hid (show (A = none → c = 0) ∧ SeesP w (· < w.heap.size) A (Us l) from ⟨hn, hs⟩)
  clear hn hs
  go_enter Tryd.func44, Tryd.ntmps44
  go_wp2_with (first | (at_builtin; refine app_bytes rfl (.const (.slice none 0 0)) (.tmp 6) 22 rfl w.heap.size 5 i0 (.int .u8 0) Tryd.underlying22 hi hz0 hz1 hz2 rfl (.slice none 0 0) 0 [] rfl (World.ownsRow_nil _ _ _ _) A c l _ rfl HS.out.1 HS.out.2 (by unfold maxLen; omega) (by omega) (Nat.le_refl _) ?_; intro v1 w1 ho1 hg1; rw [Nat.zero_add, List.nil_append] at ho1; have P1 := Lib.hid (show PRel w l v1 w1 from ⟨ho1, (Below.refl _ _).grown hg1 (Nat.le_refl _) (fun k e => by cases e)⟩); have hsz1 := hg1.size; clear hg1) | (at_builtin; refine wpList_append_own _ rfl (.tmp 7) (.tmp 8) 22 rfl w.heap.size 5 i0 (.int .u8 0) 1 1 Tryd.underlying22 hi hz0 hz1 hz2 rfl (by decide) v1 l.length _ rfl (ho1.alloc _) ⟨_, 0, none⟩ 1 1 [.int .u8 128] rfl rfl (World.news_of_block (heap_alloc_new _ _)) (one_u8 _ 128 rfl) (by unfold maxLen; omega) (by omega) (by simp; omega) ?_; intro v2 w2 ho2 hg2 _; have P2 := Lib.hid (show PRel w (l ++ [128]) v2 w2 from P1.out.snoc rfl ho2 hg2); clear ho1 ho2 hg2 P1 hsz1))
  go_loopw [3] (fun v wr => ∃ k : Nat, k ≤ padZ l.length ∧ Hid (PRel w (l ++ [128] ++ List.replicate k 0) v wr)) (fun v _ => match v with | .slice _ n _ => (l.length + 1 + padZ l.length) - n | _ => 0)
  case atStart => exact ⟨0, Nat.zero_le _, Lib.hid (by simpa using P2.out)⟩
  case round =>
    clear P2
    obtain ⟨k, hk, HP⟩ := hrel
    have hlk : (l ++ [128] ++ List.replicate k 0).length = l.length + 1 + k := by simp; omega
    have ho := HP.out.1
    rw [hlk] at ho
    obtain ⟨A1, c1, rfl⟩ := own_len ho
    have hsz := HP.out.2.size
    clear hlk
    by_cases hkz : k = padZ l.length
    · have d1 : (((l.length : Int) + 1 + (k : Int)) % 64 != 56) = false := by
        have := (padZ_mod l.length k hk).2 hkz
        simp
        omega
      have H0 := Lib.hid (show PRel w (l ++ [128] ++ List.replicate k 0 ++ len8 l.length 0) (.slice A1 (l.length + 1 + k) c1) wr from by rw [show len8 l.length 0 = [] from rfl, List.append_nil]; exact HP.out)
      have HZ := Lib.hid hkz
      clear HP ho hkz
      go_wp2_with fail
      go_loopw [3, 5] (fun v i wr => ∃ j : Nat, j ≤ 8 ∧ i = .int .i64 (7 - (j : Int)) ∧ Hid (PRel w (l ++ [128] ++ List.replicate k 0 ++ len8 l.length j) v wr)) (fun _ i _ => (intOf i + 1).toNat)
      case atStart => exact ⟨0, by decide, rfl, H0⟩
      case round =>
        clear H0 hsz d1
        obtain ⟨j, hj, rfl, HP⟩ := hrel
        have ho := HP.out.1
        have hlk : (l ++ [128] ++ List.replicate k 0 ++ len8 l.length j).length = l.length + 1 + k + j := by simp [len8_length]; omega
        rw [hlk] at ho
        have hsz := HP.out.2.size
        have HL := Lib.hid hlk
        clear hlk
        by_cases hj8 : j = 8
        · subst hj8
          have HF := Lib.hid (show Mk w (padL l) (.returned u3) wr from by
            have hp : padL l = l ++ [128] ++ List.replicate k 0 ++ len8 l.length 8 := by rw [HZ.out]; rfl
            rw [hp]
            exact mk_own HP.out.1 HP.out.2 rfl)
          clear HP ho HL HZ
          go_wp2_with fail
          go_ret
          exact HF.out
        · have e7 : (7 : Int) - (j : Int) = ((7 - j : Nat) : Int) := by omega
          rw [e7]
          obtain ⟨m, hm⟩ : ∃ m, m = 7 - j := ⟨_, rfl⟩
          rw [← hm]
          have HM := Lib.hid hm
          have hm7 : m ≤ 7 := by omega
          clear e7 hm
          obtain ⟨A3, c3, rfl⟩ := own_len ho
          go_wp2_with (at_builtin; refine wpList_append_own _ rfl (.tmp 24) (.tmp 31) 22 rfl w.heap.size 5 i0 (.int .u8 0) 1 1 Tryd.underlying22 hi hz0 hz1 hz2 rfl (by decide) (.slice A3 (l.length + 1 + k + j) c3) (l.length + 1 + k + j) _ rfl (ho.alloc _) ⟨_, 0, none⟩ 1 1 [.int .u8 (8 * (l.length : Int) / 2 ^ (8 * m) % 256)] rfl rfl (World.news_of_block (heap_alloc_new _ _)) (one_u8 _ _ (pad_byte l.length m)) (by unfold maxLen; omega) (by omega) (by simp; omega) ?_; intro v3 w3 ho3 hg3 _; have P3 := Lib.hid (pad_num HP.out HM.out HL.out ho3 hg3); clear ho ho3 hg3 HP)
          go_roundw
          case rel => exact ⟨j + 1, by omega, by have := HM.out; go_num, P3⟩
          case measure => simp [intOf]
    · have d1 : (((l.length : Int) + 1 + (k : Int)) % 64 != 56) = true := by
        have h := padZ_mod l.length k hk
        simp
        omega
      have hkl : k < padZ l.length := by omega
      go_wp2_with (at_builtin; refine wpList_append_own _ rfl (.tmp 14) (.tmp 15) 22 rfl w.heap.size 5 i0 (.int .u8 0) 1 1 Tryd.underlying22 hi hz0 hz1 hz2 rfl (by decide) (.slice A1 (l.length + 1 + k) c1) (l.length + 1 + k) _ rfl (ho.alloc _) ⟨_, 0, none⟩ 1 1 [.int .u8 0] rfl rfl (World.news_of_block (heap_alloc_new _ _)) (one_u8 _ 0 rfl) (by unfold maxLen; omega) (by omega) (by simp; omega) ?_; intro v2 w2 ho2 hg2 _; have P2 := Lib.hid (pad_zero HP.out ho2 hg2); obtain ⟨A2, c2, rfl⟩ := own_len ho2; clear ho ho2 hg2 HP)
      go_roundw
      case rel => exact ⟨k + 1, by omega, P2⟩
      case measure => simp; omega

end Go.Proofs.YtaikoeoabgkglaaDoor
