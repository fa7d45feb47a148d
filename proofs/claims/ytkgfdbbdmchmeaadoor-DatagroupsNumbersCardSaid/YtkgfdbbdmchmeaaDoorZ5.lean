/-
  What is proved here: what the program's listSize and contentSize return: the number of bytes of the encodings; for objects that lie in memory.
-/
import Derived.Test.YtkgfdbbdmchmeaaDoorRows
import Derived.Test.YtkgfdbbdmchmeaaDoorZ0
import Derived.Test.YtkgfdbbdmchmeaaDoorZ2
import Derived.Test.YtkgfdbbdmchmeaaDoorZ4
import Derived.Deep.RegionWith
import Derived.Test.YtkgfdbbdmchmeaaDoorZ1
namespace Go.Proofs.YtkgfdbbdmchmeaaDoor
open Go.RowKit
set_option maxRecDepth 8000
def tagN (t : Int) : Nat := if 255 < t then 2 else 1
def encN : F → Nat
  | .nil => 0
  | .cons t v k r => (tagN t + 1 + lb (v.length + encN k) + (v.length + encN k)) + encN r
def SizeC (w : World) (Ak : Option Addr) (lk ck m : Nat) : Prop := ∀ u, Below w.heap.size w u →
  Calls Tryd.prog 42 #[.slice Ak lk ck] u fun e w' => e = .returned (.int .i64 (m : Int)) ∧ Below u.heap.size u w'
theorem content_size (t : Int) (lv cv lk ck m : Nat) (Av Ak : Option Addr) (hm : (lv : Int) + m ≤ 9223372036854775807) (w : World) (HC : Hid (SizeC w Ak lk ck m)) :
    Calls Tryd.prog 55 #[.agg #[.int .i64 t, .slice Av lv cv, .slice Ak lk ck]] w fun e w' => e = .returned (.int .i64 ((lv : Int) + m)) ∧ Below w.heap.size w w' := by
  go_enter Tryd.func55, Tryd.ntmps55
  go_wp2_with fail
  go_region_with (go_at_call 42; refine (HC.out _ ?_).mono ?_; (repeat' (first | exact Below.refl _ _ | refine Below.drew ?_ | refine Below.alloc ?_ (Nat.le_refl _) _)); rintro e w' ⟨rfl, hb⟩; have gx := hb.cell (p := ⟨w.heap.size, 1, none⟩) (by simp); have hb2 : Below w.heap.size w w' := (((Below.refl _ _).alloc (Nat.le_refl _) _).drew).trans (hb.mono (by simp)); clear hb)
  all_goals
    clear gx
    go_wp2_with fail
    go_ret
    exact ⟨congrArg (fun z => Ending.returned (Value.int .i64 z)) (IntWalk.i64_in ((lv : Int) + m) ⟨by omega, hm⟩), hb2⟩
def SizeAll (n : Nat) : Prop := ∀ (f : F) (A : Option Addr) (c : Nat) (w : World), f.size < n → f.ok → encN f ≤ 4611686018427387903 → SeesF w (· < w.heap.size) A f →
    Calls Tryd.prog 42 #[.slice A f.len c] w fun e w' => e = .returned (.int .i64 (encN f : Int)) ∧ Below w.heap.size w w'
theorem SizeAll.c {n : Nat} (h : SizeAll n) {f : F} {A : Option Addr} {c : Nat} {w wr : World} (hn : f.size < n) (ho : f.ok) (hb : encN f ≤ 4611686018427387903) (hs : SeesF w (· < w.heap.size) A f) (hw : Below w.heap.size w wr) : SizeC wr A f.len c (encN f) := by
  intro u hu
  exact h f A c u hn ho hb (hs.on (below_on hw hu))
theorem content_nat (t : Int) (lv cv lk ck m c : Nat) (Av Ak : Option Addr) (hc : c = lv + m) (hm : c ≤ 9223372036854775807) (w : World) (HC : Hid (SizeC w Ak lk ck m)) :
    Calls Tryd.prog 55 #[.agg #[.int .i64 t, .slice Av lv cv, .slice Ak lk ck]] w fun e w' => e = .returned (.int .i64 (c : Int)) ∧ Below w.heap.size w w' := by
  have h := content_size t lv cv lk ck m Av Ak (by omega) w HC
  have e : (c : Int) = (lv : Int) + m := by omega
  rw [e]
  exact h
theorem tag_sizeN (t : Int) (a : Nat) (ha : a = tagN t) (u : World) : Calls Tryd.prog 56 #[.int .i64 t] u fun e w' => e = .returned (.int .i64 (a : Int)) ∧ w' = u := by
  have h := tag_size t u
  have e : (a : Int) = if 255 < t then 2 else 1 := by rw [ha]; unfold tagN; split <;> rfl
  rw [e]
  exact h
theorem tagN_le (t : Int) : tagN t ≤ 2 := by unfold tagN; split <;> omega
set_option maxHeartbeats 1000000 in
theorem tlv_size (n : Nat) (hb : n ≤ 1125899906842624) : SizeAll n := by
  induction n with
  | zero => intro f A c w hn; omega
  | succ n ih =>
    intro f A c w hn hok hbd hs
    obtain ⟨cs, s1, s2⟩ := hs
    have IH := Lib.hid (ih (by omega))
    have hlen := f.len_le_size
    have HOK := Lib.hid hok
    have S2 := Lib.hid s2
    clear hok s2 ih
    go_enter Tryd.func42, Tryd.ntmps42
    go_wp2_with fail
    go_loopw [3, 9] (fun q i wr => ∃ (k m : Nat) (g : F), k + g.len = f.len ∧ i = .int .i64 k ∧ q = .int .i64 m ∧ m + encN g = encN f ∧ Hid (g.ok ∧ g.size ≤ f.size ∧ HoldsP w (· < w.heap.size) g (cs.drop (3 * k))) ∧ Below w.heap.size w wr) (fun _ i _ => f.len - (intOf i).toNat)
    case atStart => exact ⟨0, 0, f, by omega, rfl, rfl, by omega, Lib.hid ⟨HOK.out, Nat.le_refl _, S2.out⟩, Below.refl _ _⟩
    case round =>
      clear S2 HOK
      obtain ⟨k, m, g, hk, rfl, rfl, hm, HG, hbw⟩ := hrel
      cases g with
      | nil =>
        have hm2 : m = encN f := hm
        have hk2 : k = f.len := hk
        clear hk hm HG s1
        subst hm2
        go_wp2_with fail
        go_ret
        exact ⟨rfl, hbw⟩
      | cons t v kk r =>
        have hk1 : k + r.len + 1 = f.len := hk
        have hgs : kk.size + r.size + 1 ≤ f.size := HG.out.2.1
        obtain ⟨lo, hi⟩ := HG.out.1.1
        obtain ⟨a, ha⟩ : ∃ a, a = tagN t := ⟨_, rfl⟩
        obtain ⟨x, hx⟩ : ∃ x, x = v.length + encN kk := ⟨_, rfl⟩
        obtain ⟨y, hy⟩ : ∃ y, y = lb x := ⟨_, rfl⟩
        have hm1 : m + ((a + 1 + y + x) + encN r) = encN f := by rw [ha, hy, hx]; exact hm
        have hx2 : x ≤ 4611686018427387903 := by omega
        have hy2 : y ≤ 8 := by rw [hy]; exact lb_le (by omega)
        have ha2 : a ≤ 2 := by rw [ha]; exact tagN_le t
        obtain ⟨b, off, Av, cv, Ak, ck, rfl, hp, g0, g1, g2, sv, sk, hr, hnv⟩ := node_at s1 HG.out.2.2
        have HR := Lib.hid hr
        have g0 := (hbw.cell (p := ⟨b, off + k * 3, none⟩) hp).trans g0
        have g1 := (hbw.cell (p := ⟨b, off + k * 3 + 1, none⟩) hp).trans g1
        have g2 := (hbw.cell (p := ⟨b, off + k * 3 + 2, none⟩) hp).trans g2
        have HOK := Lib.hid HG.out.1.2.2.2
        have hT : ∀ u, Calls Tryd.prog 56 #[.int .i64 t] u fun e w' => e = .returned (.int .i64 (a : Int)) ∧ w' = u := fun u => tag_sizeN t a ha u
        have HT := Lib.hid hT
        have hL : ∀ u, Calls Tryd.prog 57 #[.int .i64 (x : Int)] u fun e w' => e = .returned (.int .i64 (y : Int)) ∧ w' = u := fun u => by rw [hy]; exact length_bytes x (by omega) u
        have HL := Lib.hid hL
        have hC : ∀ u, Below w.heap.size w u → Calls Tryd.prog 55 #[.agg #[.int .i64 t, .slice Av v.length cv, .slice Ak kk.len ck]] u fun e w' => e = .returned (.int .i64 (x : Int)) ∧ Below u.heap.size u w' :=
          fun u hu => content_nat t v.length cv kk.len ck (encN kk) x Av Ak hx (by omega) u (Lib.hid (IH.out.c (by omega) HG.out.1.2.2.1 (by omega) sk hu))
        have HC := Lib.hid hC
        clear hk hm hT hL hC hr sk sv hp hnv HG s1 ha hx hy IH
        have hbw2 := hbw.alloc hbw.size (Obj.cells #[.int .i64 t, .slice Av v.length cv, .slice Ak kk.len ck] 50)
        go_wp2_with fail
        refine (HC.out _ hbw2).mono ?_
        rintro e w2 ⟨rfl, hb3⟩
        have gx := hb3.cell (p := ⟨wr.heap.size, 0, none⟩) (by simp)
        have hbw := hbw2.trans (hb3.mono hbw2.size)
        clear HC hb3 hbw2 g0 g1 g2
        go_wp2_with (first | (go_at_call 56; refine (HT.out _).mono ?_; rintro e w' ⟨rfl, rfl⟩) | (go_at_call 57; refine (HL.out _).mono ?_; rintro e w' ⟨rfl, rfl⟩))
        go_roundw
        case rel => exact ⟨k + 1, m + (a + 1 + y + x), r, by omega, by go_num, by go_num, by omega, Lib.hid ⟨HOK.out, by omega, HR.out⟩, hbw⟩
        case measure => simp [intOf]; omega
end Go.Proofs.YtkgfdbbdmchmeaaDoor
namespace Go.Proofs.YtkgfdbbdmchmeaaDoor
open Go.RowKit
def tagL (t : Nat) : List UInt8 := if 255 < t then [UInt8.ofNat (t / 256), UInt8.ofNat t] else [UInt8.ofNat t]
theorem tagL_length (t : Nat) : (tagL t).length = tagN t := by
  unfold tagL tagN
  by_cases h : 255 < t
  · rw [if_pos h, if_pos (by omega)]; rfl
  · rw [if_neg h, if_neg (by omega)]; rfl
theorem byte_lo (t : Nat) : (t : Int) % 256 = ((UInt8.ofNat t).toNat : Int) := by rw [UInt8.toNat_ofNat']; omega
theorem byte_hi {t : Nat} (h : t ≤ 65535) : (t : Int) / 256 = ((UInt8.ofNat (t / 256)).toNat : Int) := by rw [UInt8.toNat_ofNat']; omega
theorem byte_in {t : Nat} (h : t ≤ 255) : (t : Int) = ((UInt8.ofNat t).toNat : Int) := by rw [UInt8.toNat_ofNat']; omega
theorem byte_sh (n m : Nat) : (n : Int) / 2 ^ (8 * m) % 256 = ((UInt8.ofNat (n / 256 ^ m)).toNat : Int) := by
  have e : ((n : Int) / 2 ^ (8 * m)) = ((n / 256 ^ m : Nat) : Int) := by
    rw [show (256 : Nat) = 2 ^ 8 from rfl, ← Nat.pow_mul]; simp
  rw [e]; exact byte_lo _
theorem app_two (l : List UInt8) (a b : UInt8) : l ++ [a] ++ [b] = l ++ [a, b] := by simp
set_option maxHeartbeats 400000 in
theorem app_tag (t B g k cap : Nat) (l : List UInt8) (ht : t ≤ 65535) (hc : k + tagN t ≤ cap) (w : World) (hown : Out w B g k cap l) :
    Calls Tryd.prog 58 #[.slice (some ⟨g, 0, none⟩) k cap, .int .i64 (t : Int)] w (Puts w B g (k + tagN t) cap (l ++ tagL t)) := by
  obtain ⟨i0, hi, hz0, hz1, hz2⟩ := info_parts info_u8b
  by_cases h : 255 < t
  · have e1 : tagN t = 2 := by unfold tagN; rw [if_pos (by omega)]
    have e2 : tagL t = [UInt8.ofNat (t / 256), UInt8.ofNat t] := by unfold tagL; rw [if_pos h]
    have hT : ∀ u, Calls Tryd.prog 56 #[.int .i64 (t : Int)] u fun e w' => e = .returned (.int .i64 2) ∧ w' = u := fun u => by have := tag_size t u; rwa [if_pos (by omega)] at this
    have HT := Lib.hid hT
    rw [e1, e2]
    rw [e1] at hc
    clear hT e1 e2 h
    unfold Out at hown
    go_enter Tryd.func58, Tryd.ntmps58
    go_wp2_with (first | (go_at_call 56; refine (HT.out _).mono ?_; rintro e w' ⟨rfl, rfl⟩) | (at_builtin; refine wpList_append_fits _ rfl (.tmp 8) (.tmp 12) 35 rfl B 5 i0 1 Tryd.underlying35 hi hz1 g k cap _ rfl (hown.alloc _) ⟨w'.heap.size, 0, none⟩ 1 1 [_] rfl rfl (news_of_one _ _ _) (one_cell1 _) (by omega) ?_; intro w1 hown1 hg1; have hg1 := grown_trans (grown_alloc w' _ (some g)) hg1; have hown1 := Out.byte _ (byte_hi ht) hown1; unfold Out at hown1; clear hown) | (at_builtin; refine wpList_append_fits _ rfl (.tmp 14) (.tmp 17) 35 rfl B 5 i0 1 Tryd.underlying35 hi hz1 g (k + 1) cap _ rfl (hown1.alloc _) ⟨w1.heap.size, 0, none⟩ 1 1 [_] rfl rfl (news_of_one _ _ _) (one_cell1 _) (by omega) ?_; intro w2 hown2 hg2; have hg2 := grown_trans (grown_trans hg1 (grown_alloc w1 _ (some g))) hg2; have hown2 := Out.byte _ (byte_lo t) hown2; rw [app_two] at hown2; clear hown1 hg1; have HO := Lib.hid hown2; have HG := Lib.hid hg2; clear hown2 hg2))
    go_ret
    exact ⟨rfl, HO.out, HG.out⟩
  · have e1 : tagN t = 1 := by unfold tagN; rw [if_neg (by omega)]
    have e2 : tagL t = [UInt8.ofNat t] := by unfold tagL; rw [if_neg h]
    have ht1 : t ≤ 255 := by omega
    have hT : ∀ u, Calls Tryd.prog 56 #[.int .i64 (t : Int)] u fun e w' => e = .returned (.int .i64 1) ∧ w' = u := fun u => by have := tag_size t u; rwa [if_neg (by omega)] at this
    have HT := Lib.hid hT
    rw [e1, e2]
    rw [e1] at hc
    clear hT e1 e2 h
    unfold Out at hown
    go_enter Tryd.func58, Tryd.ntmps58
    go_wp2_with (first | (go_at_call 56; refine (HT.out _).mono ?_; rintro e w' ⟨rfl, rfl⟩) | (at_builtin; refine wpList_append_fits _ rfl (.tmp 14) (.tmp 17) 35 rfl B 5 i0 1 Tryd.underlying35 hi hz1 g k cap _ rfl (hown.alloc _) ⟨w'.heap.size, 0, none⟩ 1 1 [_] rfl rfl (news_of_one _ _ _) (one_cell1 _) (by omega) ?_; intro w1 hown1 hg1; have hg1 := grown_trans (grown_alloc w' _ (some g)) hg1; have hown1 := Out.byte _ (byte_in ht1) hown1; clear hown))
    have HO := Lib.hid hown1
    have HG := Lib.hid hg1
    clear hown1 hg1
    go_wp2_with fail
    go_ret
    exact ⟨rfl, HO.out, HG.out⟩
def lenD (n s k : Nat) : List UInt8 := (List.range k).map fun i => UInt8.ofNat (n / 256 ^ (s - 1 - i))
def lenL (n : Nat) : List UInt8 := if n ≤ 127 then [UInt8.ofNat n] else UInt8.ofNat (128 + lb n) :: lenD n (lb n) (lb n)
theorem lenD_length (n s k : Nat) : (lenD n s k).length = k := by simp [lenD]
theorem lenD_snoc (n s k : Nat) : lenD n s (k + 1) = lenD n s k ++ [UInt8.ofNat (n / 256 ^ (s - 1 - k))] := by simp [lenD, List.range_succ]
theorem lenL_length (n : Nat) : (lenL n).length = 1 + lb n := by
  unfold lenL
  split
  · rename_i h; rw [lb_0 h]; rfl
  · simp [lenD_length]; omega
set_option maxHeartbeats 400000 in
set_option maxRecDepth 8000 in
theorem app_length (n B g k cap : Nat) (l : List UInt8) (ht : n ≤ 65535) (hc : k + (1 + lb n) ≤ cap) (w : World) (hown : Out w B g k cap l) :
    Calls Tryd.prog 59 #[.slice (some ⟨g, 0, none⟩) k cap, .int .i64 (n : Int)] w (Puts w B g (k + (1 + lb n)) cap (l ++ lenL n)) := by
  obtain ⟨i0, hi, hz0, hz1, hz2⟩ := info_parts info_u8b
  obtain ⟨s, hs⟩ : ∃ s, s = lb n := ⟨_, rfl⟩
  have hL : ∀ u, Calls Tryd.prog 57 #[.int .i64 (n : Int)] u fun e w' => e = .returned (.int .i64 (s : Int)) ∧ w' = u := fun u => by rw [hs]; exact length_bytes n (by omega) u
  have HL := Lib.hid hL
  clear hL
  rw [← hs] at hc ⊢
  unfold Out at hown
  by_cases h : n ≤ 127
  · have e1 : s = 0 := by rw [hs, lb_0 h]
    have e2 : lenL n = [UInt8.ofNat n] := by unfold lenL; rw [if_pos h]
    subst e1
    rw [e2]
    have ht1 : n ≤ 255 := by omega
    clear hs e2 h
    go_enter Tryd.func59, Tryd.ntmps59
    go_wp2_with (first | (go_at_call 57; refine (HL.out _).mono ?_; rintro e w' ⟨rfl, rfl⟩) | (at_builtin; refine wpList_append_fits _ rfl (.tmp 11) (.tmp 14) 35 rfl B 5 i0 1 Tryd.underlying35 hi hz1 g k cap _ rfl (hown.alloc _) ⟨w'.heap.size, 0, none⟩ 1 1 [_] rfl rfl (news_of_one _ _ _) (one_cell1 _) (by omega) ?_; intro w1 hown1 hg1; have hg1 := grown_trans (grown_alloc w' _ (some g)) hg1; have hown1 := Out.byte _ (byte_in ht1) hown1; clear hown; have HO := Lib.hid hown1; have HG := Lib.hid hg1; clear hown1 hg1))
    go_ret
    exact ⟨rfl, HO.out, HG.out⟩
  · have hs1 : 1 ≤ s := by rw [hs]; exact lb_pos (by omega) (by omega)
    have hs2 : s ≤ 2 := by
      rw [hs]
      by_cases h2 : n < 256
      · rw [lb_1 (by omega) h2]; omega
      · rw [lb_2 (by omega) (by omega)]; omega
    have e2 : lenL n = UInt8.ofNat (128 + s) :: lenD n s s := by unfold lenL; rw [if_neg h, ← hs]
    have hz : ((128 : Int) + s) = ((UInt8.ofNat (128 + s)).toNat : Int) := by rw [UInt8.toNat_ofNat']; omega
    rw [e2]
    have d0 : (s == 0) = false := by simp; omega
    clear hs e2 h
    have HZ := Lib.hid hz
    clear hz
    go_enter Tryd.func59, Tryd.ntmps59
    go_wp2_with (first | (go_at_call 57; refine (HL.out _).mono ?_; rintro e w' ⟨rfl, rfl⟩) | (at_builtin; refine wpList_append_fits _ rfl (.tmp 16) (.tmp 20) 35 rfl B 5 i0 1 Tryd.underlying35 hi hz1 g k cap _ rfl (hown.alloc _) ⟨w'.heap.size, 0, none⟩ 1 1 [_] rfl rfl (news_of_one _ _ _) (one_cell1 _) (by omega) ?_; intro w1 hown1 hg1; have hg1 := grown_trans (grown_alloc w' _ (some g)) hg1; have hown1 := Out.byte _ HZ.out hown1; clear hown; have HO := Lib.hid hown1; have HG := Lib.hid hg1; clear hown1 hg1))
    go_loopw [0, 23] (fun q i wr => ∃ j : Nat, j ≤ s ∧ i = .int .i64 j ∧ q = .slice (some ⟨g, 0, none⟩) (k + 1 + j) cap ∧ Out wr B g (k + 1 + j) cap (l ++ [UInt8.ofNat (128 + s)] ++ lenD n s j) ∧ w'.grownBy wr (some g)) (fun _ i _ => s - (intOf i).toNat)
    case atStart => exact ⟨0, Nat.zero_le _, rfl, rfl, by simpa [lenD] using HO.out, HG.out⟩
    case round =>
      clear HO HG
      obtain ⟨j, hj, rfl, rfl, hown, hg⟩ := hrel
      unfold Out at hown
      by_cases hlt : j < s
      · go_wp2_with (at_builtin; refine wpList_append_fits _ rfl (.tmp 26) (.tmp 35) 35 rfl B 5 i0 1 Tryd.underlying35 hi hz1 g (k + 1 + j) cap _ rfl (hown.alloc _) ⟨wr.heap.size, 0, none⟩ 1 1 [_] rfl rfl (news_of_one _ _ _) (one_cell1 _) (by omega) ?_; intro w2 hown2 hg2; have hg2 := grown_trans (grown_trans hg (grown_alloc wr _ (some g))) hg2; have hown2 := Out.byte _ (byte_sh n (s - 1 - j)) hown2; rw [List.append_assoc, ← lenD_snoc] at hown2; have HO := Lib.hid hown2; have HG := Lib.hid hg2; clear hown2 hg2 hown hg)
        go_roundw
        case rel => exact ⟨j + 1, by omega, by go_num, rfl, HO.out, HG.out⟩
        case measure => simp [intOf]; omega
      · obtain rfl : j = s := by omega
        have HO := Lib.hid hown
        have HG := Lib.hid hg
        clear hown hg
        go_wp2_with fail
        go_ret
        refine ⟨by rw [show k + (1 + j) = k + 1 + j by omega]; rfl, ?_, HG.out⟩
        have h := HO.out
        rw [List.append_assoc, List.singleton_append, show k + 1 + j = k + (1 + j) by omega] at h
        exact h
end Go.Proofs.YtkgfdbbdmchmeaaDoor
