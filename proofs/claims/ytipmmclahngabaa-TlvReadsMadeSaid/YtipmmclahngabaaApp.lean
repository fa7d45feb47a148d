/-
  What is proved here: what the program's appendTag, appendLength and appendList append, where there is room; for objects that lie in memory.
-/
import Derived.Test.YtipmmclahngabaaRows
import Derived.Test.YtipmmclahngabaaKit
import Derived.Test.YtipmmclahngabaaSiz
namespace Go.Proofs.Ytipmmclahngabaa
open Go.RowKit

theorem info_u8b : (Try.prog.info? 5).map (fun i => (i.zero, i.size, i.bytes)) = some (some (.int .u8 0), 1, 1) := by kernel_rfl

/-- the row at block g holds the bytes l -/
def Out (w : World) (B g k cap : Nat) (l : List UInt8) : Prop := w.ownsRow B 5 1 (.slice (some ⟨g, 0, none⟩) k cap) k (Us l)
/-- what a call answers that appends n bytes, l then being what is there in all -/
def Puts (w : World) (B g k cap : Nat) (l : List UInt8) (e : Ending) (w' : World) : Prop :=
  e = .returned (.slice (some ⟨g, 0, none⟩) k cap) ∧ Out w' B g k cap l ∧ w.grownBy w' (some g)

theorem byteU (n : Nat) : Value.int .u8 ((n : Int) % 256) = U (UInt8.ofNat n) := by
  unfold U
  rw [UInt8.toNat_ofNat']
  congr 1
theorem one_cell1 (z : Int) : ∀ u ∈ [Value.int .u8 z], u.oneCell' = true := by
  intro u hu
  simp only [List.mem_singleton] at hu
  subst hu
  rfl
theorem Out.byte {w : World} {B g k cap : Nat} {l : List UInt8} {z : Int} (b : UInt8) (hz : z = (b.toNat : Int)) (h : w.ownsRow B 5 1 (.slice (some ⟨g, 0, none⟩) k cap) k (Us l ++ [Value.int .u8 z])) : Out w B g k cap (l ++ [b]) := by
  unfold Out
  rw [Us_append]
  have : Us [b] = [Value.int .u8 z] := by rw [hz]; rfl
  rw [this]
  exact h
theorem grown_trans {a b c : World} {g : Nat} (h : a.grownBy b (some g)) (k : b.grownBy c (some g)) : a.grownBy c (some g) := by
  obtain ⟨h1, h2, h3, h4, h5⟩ := h
  obtain ⟨k1, k2, k3, k4, k5⟩ := k
  exact ⟨k1.trans h1, k2.trans h2, k3.trans h3, Nat.le_trans h4 k4, fun i hi hn => (k5 i (Nat.lt_of_lt_of_le hi h4) hn).trans (h5 i hi hn)⟩
theorem grown_below {a b : World} {row : Option Nat} (h : Below a.heap.size a b) : a.grownBy b row :=
  ⟨h.os, h.tape, h.output, h.size, fun i hi _ => h.block i hi⟩
theorem grown_alloc (a : World) (o : Obj) (row : Option Nat) : a.grownBy (a.alloc o) row := grown_below ((Below.refl _ _).alloc (Nat.le_refl _) o)

/-- the bytes of a tag -/
def tagL (t : Nat) : List UInt8 := if 255 < t then [UInt8.ofNat (t / 256), UInt8.ofNat t] else [UInt8.ofNat t]
theorem tagL_length (t : Nat) : (tagL t).length = tagN t := by
  unfold tagL tagN
  by_cases h : 255 < t
  · rw [if_pos h, if_pos (by omega)]; rfl
  · rw [if_neg h, if_neg (by omega)]; rfl

theorem byte_lo (t : Nat) : (t : Int) % 256 = ((UInt8.ofNat t).toNat : Int) := by rw [UInt8.toNat_ofNat']; omega
theorem byte_hi {t : Nat} (h : t ≤ 65535) : (t : Int) / 256 = ((UInt8.ofNat (t / 256)).toNat : Int) := by rw [UInt8.toNat_ofNat']; omega
theorem byte_in {t : Nat} (h : t ≤ 255) : (t : Int) = ((UInt8.ofNat t).toNat : Int) := by rw [UInt8.toNat_ofNat']; omega
theorem byte_sh (n m : Nat) : (n : Int) / 2 ^ (8 * m) % 256 = ((UInt8.ofNat (n / 256 ^ m)).toNat : Int) := by
  have e : ((n : Int) / 2 ^ (8 * m)) = ((n / 256 ^ m : Nat) : Int) := by
    rw [show (256 : Nat) = 2 ^ 8 from rfl, ← Nat.pow_mul]; simp
  rw [e]; exact byte_lo _
theorem app_two (l : List UInt8) (a b : UInt8) : l ++ [a] ++ [b] = l ++ [a, b] := by simp

set_option maxHeartbeats 400000 in
theorem app_tag (t B g k cap : Nat) (l : List UInt8) (ht : t ≤ 65535) (hc : k + tagN t ≤ cap) (w : World) (hown : Out w B g k cap l) :
    Calls Try.prog 59 #[.slice (some ⟨g, 0, none⟩) k cap, .int .i64 (t : Int)] w (Puts w B g (k + tagN t) cap (l ++ tagL t)) := by
  obtain ⟨i0, hi, hz0, hz1, hz2⟩ := info_parts info_u8b
  by_cases h : 255 < t
  · have e1 : tagN t = 2 := by unfold tagN; rw [if_pos (by omega)]
    have e2 : tagL t = [UInt8.ofNat (t / 256), UInt8.ofNat t] := by unfold tagL; rw [if_pos h]
    have hT : ∀ u, Calls Try.prog 38 #[.int .i64 (t : Int)] u fun e w' => e = .returned (.int .i64 2) ∧ w' = u := fun u => by have := tag_size t u; rwa [if_pos (by omega)] at this
    have HT := Lib.hid hT
    rw [e1, e2]
    rw [e1] at hc
    clear hT e1 e2 h
    unfold Out at hown
    go_enter Try.func59, Try.ntmps59
    go_wp2_with (first | (go_at_call 38; refine (HT.out _).mono ?_; rintro e w' ⟨rfl, rfl⟩) | (at_builtin; refine wpList_append_fits _ rfl (.tmp 8) (.tmp 12) 27 rfl B 5 i0 1 Try.underlying27 hi hz1 g k cap _ rfl (hown.alloc _) ⟨w'.heap.size, 0, none⟩ 1 1 [_] rfl rfl (news_of_one _ _ _) (one_cell1 _) (by omega) ?_; intro w1 hown1 hg1; have hg1 := grown_trans (grown_alloc w' _ (some g)) hg1; have hown1 := Out.byte _ (byte_hi ht) hown1; unfold Out at hown1; clear hown) | (at_builtin; refine wpList_append_fits _ rfl (.tmp 14) (.tmp 17) 27 rfl B 5 i0 1 Try.underlying27 hi hz1 g (k + 1) cap _ rfl (hown1.alloc _) ⟨w1.heap.size, 0, none⟩ 1 1 [_] rfl rfl (news_of_one _ _ _) (one_cell1 _) (by omega) ?_; intro w2 hown2 hg2; have hg2 := grown_trans (grown_trans hg1 (grown_alloc w1 _ (some g))) hg2; have hown2 := Out.byte _ (byte_lo t) hown2; rw [app_two] at hown2; clear hown1 hg1; have HO := Lib.hid hown2; have HG := Lib.hid hg2; clear hown2 hg2))
    go_ret
    exact ⟨rfl, HO.out, HG.out⟩
  · have e1 : tagN t = 1 := by unfold tagN; rw [if_neg (by omega)]
    have e2 : tagL t = [UInt8.ofNat t] := by unfold tagL; rw [if_neg h]
    have ht1 : t ≤ 255 := by omega
    have hT : ∀ u, Calls Try.prog 38 #[.int .i64 (t : Int)] u fun e w' => e = .returned (.int .i64 1) ∧ w' = u := fun u => by have := tag_size t u; rwa [if_neg (by omega)] at this
    have HT := Lib.hid hT
    rw [e1, e2]
    rw [e1] at hc
    clear hT e1 e2 h
    unfold Out at hown
    go_enter Try.func59, Try.ntmps59
    go_wp2_with (first | (go_at_call 38; refine (HT.out _).mono ?_; rintro e w' ⟨rfl, rfl⟩) | (at_builtin; refine wpList_append_fits _ rfl (.tmp 14) (.tmp 17) 27 rfl B 5 i0 1 Try.underlying27 hi hz1 g k cap _ rfl (hown.alloc _) ⟨w'.heap.size, 0, none⟩ 1 1 [_] rfl rfl (news_of_one _ _ _) (one_cell1 _) (by omega) ?_; intro w1 hown1 hg1; have hg1 := grown_trans (grown_alloc w' _ (some g)) hg1; have hown1 := Out.byte _ (byte_in ht1) hown1; clear hown))
    have HO := Lib.hid hown1
    have HG := Lib.hid hg1
    clear hown1 hg1
    go_wp2_with fail
    go_ret
    exact ⟨rfl, HO.out, HG.out⟩

/-- the bytes of a length in shortest form -/
def lenD (n s k : Nat) : List UInt8 := (List.range k).map fun i => UInt8.ofNat (n / 256 ^ (s - 1 - i))
def lenL (n : Nat) : List UInt8 := if n ≤ 127 then [UInt8.ofNat n] else UInt8.ofNat (128 + lb n) :: lenD n (lb n) (lb n)
theorem lenD_length (n s k : Nat) : (lenD n s k).length = k := by simp [lenD]
theorem lenD_snoc (n s k : Nat) : lenD n s (k + 1) = lenD n s k ++ [UInt8.ofNat (n / 256 ^ (s - 1 - k))] := by simp [lenD, List.range_succ]
theorem lenL_length (n : Nat) : (lenL n).length = 1 + lb n := by
  unfold lenL
  split
  · rename_i h; rw [lb_0 h]; rfl
  · simp [lenD_length]; omega

set_option maxHeartbeats 400000 in
theorem app_length (n B g k cap : Nat) (l : List UInt8) (ht : n ≤ 65535) (hc : k + (1 + lb n) ≤ cap) (w : World) (hown : Out w B g k cap l) :
    Calls Try.prog 60 #[.slice (some ⟨g, 0, none⟩) k cap, .int .i64 (n : Int)] w (Puts w B g (k + (1 + lb n)) cap (l ++ lenL n)) := by
  obtain ⟨i0, hi, hz0, hz1, hz2⟩ := info_parts info_u8b
  obtain ⟨s, hs⟩ : ∃ s, s = lb n := ⟨_, rfl⟩
  have hL : ∀ u, Calls Try.prog 58 #[.int .i64 (n : Int)] u fun e w' => e = .returned (.int .i64 (s : Int)) ∧ w' = u := fun u => by rw [hs]; exact length_bytes n (by omega) u
  have HL := Lib.hid hL
  clear hL
  rw [← hs] at hc ⊢
  unfold Out at hown
  by_cases h : n ≤ 127
  · have e1 : s = 0 := by rw [hs, lb_0 h]
    have e2 : lenL n = [UInt8.ofNat n] := by unfold lenL; rw [if_pos h]
    subst e1
    rw [e2]
    have ht1 : n ≤ 255 := by omega
    clear hs e2 h
    go_enter Try.func60, Try.ntmps60
    go_wp2_with (first | (go_at_call 58; refine (HL.out _).mono ?_; rintro e w' ⟨rfl, rfl⟩) | (at_builtin; refine wpList_append_fits _ rfl (.tmp 11) (.tmp 14) 27 rfl B 5 i0 1 Try.underlying27 hi hz1 g k cap _ rfl (hown.alloc _) ⟨w'.heap.size, 0, none⟩ 1 1 [_] rfl rfl (news_of_one _ _ _) (one_cell1 _) (by omega) ?_; intro w1 hown1 hg1; have hg1 := grown_trans (grown_alloc w' _ (some g)) hg1; have hown1 := Out.byte _ (byte_in ht1) hown1; clear hown; have HO := Lib.hid hown1; have HG := Lib.hid hg1; clear hown1 hg1))
    go_ret
    exact ⟨rfl, HO.out, HG.out⟩
  · have hs1 : 1 ≤ s := by rw [hs]; exact lb_pos (by omega) (by omega)
    have hs2 : s ≤ 2 := by
      rw [hs]
      by_cases h2 : n < 256
      · rw [lb_1 (by omega) h2]; omega
      · rw [lb_2 (by omega) (by omega)]; omega
    have e2 : lenL n = UInt8.ofNat (128 + s) :: lenD n s s := by unfold lenL; rw [if_neg h, ← hs]
    have hz : ((128 : Int) + s) = ((UInt8.ofNat (128 + s)).toNat : Int) := by rw [UInt8.toNat_ofNat']; omega
    rw [e2]
    have d0 : (s == 0) = false := by simp; omega
    clear hs e2 h
    have HZ := Lib.hid hz
    clear hz
    go_enter Try.func60, Try.ntmps60
    go_wp2_with (first | (go_at_call 58; refine (HL.out _).mono ?_; rintro e w' ⟨rfl, rfl⟩) | (at_builtin; refine wpList_append_fits _ rfl (.tmp 16) (.tmp 20) 27 rfl B 5 i0 1 Try.underlying27 hi hz1 g k cap _ rfl (hown.alloc _) ⟨w'.heap.size, 0, none⟩ 1 1 [_] rfl rfl (news_of_one _ _ _) (one_cell1 _) (by omega) ?_; intro w1 hown1 hg1; have hg1 := grown_trans (grown_alloc w' _ (some g)) hg1; have hown1 := Out.byte _ HZ.out hown1; clear hown; have HO := Lib.hid hown1; have HG := Lib.hid hg1; clear hown1 hg1))
    go_loopw [0, 23] (fun q i wr => ∃ j : Nat, j ≤ s ∧ i = .int .i64 j ∧ q = .slice (some ⟨g, 0, none⟩) (k + 1 + j) cap ∧ Out wr B g (k + 1 + j) cap (l ++ [UInt8.ofNat (128 + s)] ++ lenD n s j) ∧ w'.grownBy wr (some g)) (fun _ i _ => s - (intOf i).toNat)
    case atStart => exact ⟨0, Nat.zero_le _, rfl, rfl, by simpa [lenD] using HO.out, HG.out⟩
    case round =>
      clear HO HG
      obtain ⟨j, hj, rfl, rfl, hown, hg⟩ := hrel
      unfold Out at hown
      by_cases hlt : j < s
      · go_wp2_with (at_builtin; refine wpList_append_fits _ rfl (.tmp 26) (.tmp 35) 27 rfl B 5 i0 1 Try.underlying27 hi hz1 g (k + 1 + j) cap _ rfl (hown.alloc _) ⟨wr.heap.size, 0, none⟩ 1 1 [_] rfl rfl (news_of_one _ _ _) (one_cell1 _) (by omega) ?_; intro w2 hown2 hg2; have hg2 := grown_trans (grown_trans hg (grown_alloc wr _ (some g))) hg2; have hown2 := Out.byte _ (byte_sh n (s - 1 - j)) hown2; rw [List.append_assoc, ← lenD_snoc] at hown2; have HO := Lib.hid hown2; have HG := Lib.hid hg2; clear hown2 hg2 hown hg)
        go_roundw
        case rel => exact ⟨j + 1, by omega, by go_num, rfl, HO.out, HG.out⟩
        case measure => simp [intOf]; omega
      · obtain rfl : j = s := by omega
        have HO := Lib.hid hown
        have HG := Lib.hid hg
        clear hown hg
        go_wp2_with fail
        go_ret
        refine ⟨by rw [show k + (1 + j) = k + 1 + j by omega]; rfl, ?_, HG.out⟩
        have h := HO.out
        rw [List.append_assoc, List.singleton_append, show k + 1 + j = k + (1 + j) by omega] at h
        exact h

end Go.Proofs.Ytipmmclahngabaa
